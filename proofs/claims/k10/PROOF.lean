import PyProof.Rows.All
import Wide.All
import OpenK.AllK
import Wide.FinOn
import Lean
import PyProof.EqAt
import PyProof.EqKinds
import PyProof.TupleCall
import PyProof.CompUse
import PyProof.NeData
import PyProof.WalksEnum
import PyProof.EnumMake
import PyProof.ZipIter
import PyProof.Rows.EnumRows
import PyProof.Rows.FactsT2
import KE.KDictList
import PyProof.Rows.SortRuns
import PyProof.Rows.SortWalk
import KE.KSortTup
import PyProof.Rows.SortStr
import PyProof.ListRange
import PyProof.StrOps2
import PyProof.StrBlock2
import PyProof.AutoIntG3
import PyProof.ListMulRight
import PyProof.Rows.ListMulArg
import PyProof.Rows.CallKwBuiltin
import PyProof.Rows.StrMul
import KE.KMinBuiltin
import PyProof.TupleKey
import PyProof.SetKind
import PyProof.Rows.SetFrom
import PyProof.DictWalks
import KE.KRevIter
import PyProof.P3Eq
import PyProof.MeetsSeq3
import PyProof.AutoSeq1
import PyProof.FactsAll.list_2
import PyProof.FactsAll.tuple_2
import PyProof.Rows.RowHeap
import PyProof.FactsAll.list_3
import PyProof.StrCalls2
import PyProof.StrLawsTight
import PyProof.Rows.StrNews2
import PyProof.Rows.StrLawsPart
import PyProof.Rows.StrFirst
import PyProof.CallStr
import KE.KIntText
import PySem.Challenge.RW_kinlook_k10_texts_refused
open PySem renaming wpAny_bind->ai,wpAny_pure->aE,wpAny_mono->rj
open List renaming mem_cons_of_mem->cK,mem_append_right->dQ,mem_cons_self->dv,length_map->cE,mem_cons->dc,mem_map->de,mem_append->eI,mem_append_left->gE,nodup_append->hJ,size_toArray->i5,map_cons->fz,getElem?_eq_some_iff->pT,sublist_append_right->pV,length_append->kK,mem_singleton->mw,getElem?_map->lI,getElem?_append_right->vF,nodup_nil->kA,length_take->nv,mem_of_getElem?->rp,nodup_cons->ny,length_cons->oP,append_nil->og,map_map->mz,filterMap_cons->vS,getElem?_eq_getElem->AG,mem_range->rq,getElem?_append_left->BQ,append_assoc->vT,pairwise_map->wa,drop_eq_getElem_cons->D4,not_mem_nil->xo,all_eq_true->xt,getElem?_eq_none->BU,sublist_append_left->FK,length_drop->AH,take_of_length_le->FL,map_congr_left->D5,getD_eq_getElem?_getD->Kx,take_append_drop->FP,nil_sublist->B1,take_add_one->D6,getElem?_replicate->KG,length_eq_zero_iff->KL,append_eq_nil_iff->KP,zip_cons_cons->FR,length_replicate->KS,mem_filter->D7,map_append->D8,all_cons->B3,any_cons->B4,find?_cons->FT,length_singleton->Rm,ext_getElem?->KW,pairwise_append->Rn,getElem_mem->K0,cons_ne_nil->K2,nodup_iff_pairwise_ne->T4,take_length->Lc,extract_eq_drop_take->T5,pairwise_iff_getElem->T6,perm_append_comm->T7,countP_cons->Ro,drop_length->Rp,mem_iff_getElem?->T8,map_take->Lv,map_drop->LB,eq_nil_iff_forall_not_mem->xcj,mem_of_mem_drop->T9,mem_of_mem_take->T_,length_zip->Rq,filter_eq_self->Ua,mem_filterMap->Ub,filterMap_map->Uc,contains_cons->Ud,length_range->Ue,lookup_cons->Ug,all_map->Rr
open Nat renaming le_refl->bE,zero_le->dy,ne_of_lt->eL,le_trans->fP,lt_of_lt_of_le->lP,le_of_lt->ky,le_of_not_lt->qa,lt_succ_of_lt->rz,add_sub_of_le->si,lt_irrefl->oi,lt_succ_of_le->wc,le_add_right->xv,lt_of_succ_lt->AI,succ_pos->ti,pow_succ->y1,lt_of_not_le->FU,not_lt_zero->D9,le_succ_of_le->FV,add_assoc->Ee,one_pos->B5,sub_lt->B6,mul_assoc->FX,le_antisymm->LD,one_mul->EA,add_sub_cancel_left->Uh,le_of_lt_succ->Rt,lt_trans->Ru,add_comm->LG,add_zero->LH,mod_lt->FY,add_mul->LJ,sub_le->Rv,ne_of_gt->Rw,zero_add->Rx,min_self->Ry,mul_comm->Rz
open PySem.Heap renaming get?_push_of_some->dA,lt_size->da,get?_push_size->gV,get?_update_other->xA,get?_update_self->xB,get?_push_ne->GA,size_update->GB,size_push->LM
open Bool renaming false_eq_true->gX,false_ne_true->hU,and_eq_true->i7,eq_iff_iff->y2,true_and->EB,false_and->GH,not_eq_true'->Ui,not_true->RA
open Array renaming getElem?_toList->oj,toList_push->om,getElem?_eq_some_iff->y3,getElem?_eq_getElem->y4,getD_eq_getD_getElem?->B7,length_toList->xC,getElem?_eq_none->GL,size_extract->EC,eq_empty_of_size_eq_zero->RB,append_assoc->GN,getElem?_setIfInBounds_ne->Uj,getElem?_extract->RC,perm_iff_toList_perm->Uk,toList_inj->RD,toArray_toList->Ul,toList_extract->Um,getElem?_setIfInBounds->xcu,append_empty->Uo
open Int renaming le_trans->wd,le_of_lt->y6,le_refl->wm,toNat_natCast->GO,toNat_of_nonneg->LN,emod_lt_of_pos->RG,emod_nonneg->RH,not_lt->RJ
open Option renaming ne_none_iff_exists'->RK,map_eq_some_iff->RL,isSome_map->Uq
local macro_rules | `(command| def $i:declId $s:optDeclSig $v:declVal)=>`(command| noncomputable def $i:declId $s:optDeclSig $v:declVal)
local macro_rules | `(command| abbrev $i:declId $s:optDeclSig $v:declVal)=>`(command| noncomputable abbrev $i:declId $s:optDeclSig $v:declVal)
set_option compiler.extract_closed false
local macro_rules | `(tactic| walk_at "l") => `(tactic| first | lia | omega)
local macro_rules | `(tactic| walk_at "s1") => `(tactic| solve_by_elim (maxDepth := 4) [Nat.lt_of_lt_of_le, Nat.lt_of_le_of_lt, Nat.le_trans, Nat.lt_trans, Nat.le_of_lt, Nat.le_of_not_lt])
local macro_rules | `(tactic| walk_at "s2") => `(tactic| solve_by_elim (maxDepth := 5) [Nat.lt_of_lt_of_le, Nat.lt_of_le_of_lt, Nat.le_trans, Nat.le_of_lt, Nat.le_of_not_lt, Nat.lt_of_not_le, Nat.lt_of_succ_lt, Nat.le_of_succ_le])
local macro_rules | `(tactic| walk_at "s3") => `(tactic| solve_by_elim (maxDepth := 5) [Int.lt_of_lt_of_le, Int.lt_of_le_of_lt, Int.le_trans, Int.le_of_lt, Int.not_lt.mp, Int.not_le.mp])
local macro_rules | `(tactic| walk_at "s4") => `(tactic| solve_by_elim (maxDepth := 5) [Nat.le_trans, Nat.lt_of_lt_of_le, Nat.le_of_lt, Nat.le_add_right, Nat.le_add_left, Nat.add_le_add_left, Nat.add_lt_add_left, Nat.succ_le_succ, Nat.sub_le])
set_option hygiene false
local macro_rules
|`(tactic|walk_at"a")=>`(tactic|refine⟨Hs,ρ,ag,_,sr,h,λv H1 ay m x As g1 r1 f1 q1=>?_⟩)
|`(tactic|walk_at"b")=>`(tactic|intro Hs H m x v As n y u Bs Qd Qv w rx ry h f)
|`(tactic|walk_at"c")=>`(tactic|exact codeAny_compStart_list (loop _ I4 (T.keep _ _ _ kP λb hb o e=>kE b o e)) (T.self _ 0 _ _ _ (T.keep _ _ _ kP λb hb o e=>kE b o e) (loop _ I4 (T.keep _ _ _ kP λb hb o e=>kE b o e))))
|`(tactic|walk_at"d")=>`(tactic|have I3:Inv X pins σ (upd H2 s2.heap.objs.size (.lst [])) { s2 with heap:=s2.heap.push { cls:=.type "list",data:=.seq ([]:List Value).toArray } }:=I2.MG (its:=[]) (t':=s2.toks) .nil (dy _))
|`(tactic|walk_at"e")=>`(tactic|intro pins s σ H x y v u Q I rx ry h)
|`(tactic|walk_at"f")=>`(tactic|refine cB (λn s'=>∃ i τ H',Inv (aJ X scope s3.heap.objs.size (tn++cn) fp s3 (upd H2 D (.lst []))) [] τ H' s'/\pj i s'.heap/\(∀ b∈fp,H' b=none)/\W i n τ H') (λ_ _=>False) ?_ (λ_ _ z=>z.elim) m0 ⟨0,_,_,I4,px,λb hb=>(f3 b hb).1,w0⟩)
|`(tactic|walk_at"g")=>`(tactic|refine ai (wpAny_attempt (wpAny_callSpecial?_slot (name:=Str.ofString "__next__") ty F.slot_dict_keyiterator_next (wpAny_call_entry F.slot_dict_keyiterator_next ty F.entry_dict_keyiterator_next ?_ (F.args_dict_keyiterator_next_1 _)))))
|`(tactic|walk_at"h")=>`(tactic|rw[if_pos (by simpa using z)])
|`(tactic|walk_at"i")=>`(tactic|rw[if_neg (by simpa using z)])
|`(tactic|walk_at"j")=>`(tactic|refine⟨m',hm,i+1,mP,H',J.GY,T.keep _ _ _ tT λb hb o e=>(J.pin (b,o) (dQ _ (dQ _ (CF hb e)))).1,λb hb=>?_,w'⟩)
|`(tactic|walk_at"k")=>`(tactic|refine wpS_bind (wpS_lift (wpAny_rule ⟨rfl,?_⟩)))
|`(tactic|walk_at"m")=>`(tactic|refine⟨rfl,ay,ρ,ag,_,sr.grow g1,q1,λy H2 aI m2 x2 fN g2 r2 f2 q2=>?_⟩)
|`(tactic|walk_at"n")=>`(tactic|obtain⟨n1,n2,n3⟩:=hJ.mp n)
|`(tactic|walk_at"o")=>`(tactic|intro pins s σ H xs us Q I r h)
|`(tactic|walk_at"p")=>`(tactic|refine⟨sj,rfl,I3.bare,Un.kept kE,⟨_,Nc,λi x v e1 e2 e3=>?_⟩,λx c e=>?_,I3.aS.fresh (bE _),λx c e=>I3.nE x c (sub x c e),λp hp=>absurd hp (by simp[aJ]),I3.aS.kept kE,?_⟩)
|`(tactic|walk_at"r")=>`(tactic|exact fin _ D m H5 s6 _ J6 hn I6.free (I3.AR (b:=s3.heap.objs.size) (H':=H5) (bE _) I6.free) qn)
|`(tactic|walk_at"s")=>`(tactic|intro Hs H m x v As Qd Qv w rx h f)
|`(tactic|walk_at"t")=>`(tactic|refine⟨aT.refl _,⟨mR (jM (G:=H1) (sr.grow g1) _ ix) tn,⟨(aT.refl H1).upd hb,λa xs e=>?_⟩,kA,λa h=>nomatch h⟩,iL,hb,.nil,by simp,λa h=>nomatch h⟩)
|`(tactic|walk_at"u")=>`(tactic|rw[show its.toArray.any (rV x)=its.any (rV x) by simp,MA r fs])
|`(tactic|walk_at"v")=>`(tactic|obtain⟨u,r,l⟩:=hl j x v c2 ej (c3.elim (λz=>.inr (.inl z)) λz=>.inr (.inr z)))
|`(tactic|walk_at"w")=>`(tactic|refine wpAny_newFunctionEnv O.UU (by intro y hy;simp at hy) (λx5 Nc Nn=>?_) O.kind)
|`(tactic|walk_at"x")=>`(tactic|intro pins s σ H Q I h)
|`(tactic|walk_at"y")=>`(tactic|refine⟨by decide +kernel,by lia,?_⟩)
|`(tactic|walk_at"z")=>`(tactic|refine wpS_bind (wpS_get ?_))
|`(tactic|walk_at"A")=>`(tactic|exact J6.turned (t':=s6.toks) (λb o hb e=>HP.extBut b o hb e) hf g1 g3 g4 g5)
|`(tactic|walk_at"B")=>`(tactic|have r:=r1.rep g1.wf)
|`(tactic|walk_at"C")=>`(tactic|intro pins s σ H x v vl vu lo hi sl Q I rx hs pl pu h)
|`(tactic|walk_at"D")=>`(tactic|refine⟨x,rfl,tx,λe2=>(by rw[e] at e2;cases e2),λeB' l2 e2 _=>?_⟩)
|`(tactic|walk_at"E")=>`(tactic|refine⟨by decide +kernel,by decide +kernel,R.F (by decide +kernel) ?_⟩)
|`(tactic|walk_at"F")=>`(tactic|refine wpAny_comprehension_free (use:=use) rfl hs (gk i6) O.kind O.names (bX (hi pins s σ H _ I h) λv s1 h1=>bX h1 λEH s2 h2=>?_))
|`(tactic|walk_at"G")=>`(tactic|obtain⟨W,⟨m0,w0⟩,turn⟩:=h2 s2.heap.objs.size (I2.aS.fresh (bE _)))
|`(tactic|walk_at"H")=>`(tactic|intro value slice pins s σ H x y v u Q I rx ry h hs)
|`(tactic|walk_at"I")=>`(tactic|exact⟨ys,ds.length-(i+1),c4.eD,by lia,by lia,rfl,eu,yk,ku,acc++[d],ys++[v],fI,c5,by rw[kK];simpa using la,by simpa using q4⟩)
|`(tactic|walk_at"J")=>`(tactic|obtain⟨o',e1⟩:=I.base.there b o e hx)
|`(tactic|walk_at"K")=>`(tactic|obtain⟨t,rfl⟩:=rx)
|`(tactic|walk_at"L")=>`(tactic|refine wpS_pure (h _ _ (new (arrOf st) (gallopOf st) (Array.Perm.refl _) (λ_ _=>rfl) ?_) len (by simp) λ_ _=>rfl))
|`(tactic|walk_at"M")=>`(tactic|have hT5:(⟨h,g,d,t,os⟩:Shared).TypeIs (.builtin "object.__class__") "getset_descriptor" := F.typeOf_object_class)
|`(tactic|walk_at"N")=>`(tactic|refine Calls.spliced_cons (bX (he pins s σ H _ I h) λu s1 b6=>L2.fe b6 λx H1 I1 r1 q1=>Calls.spliced_nil ?_))
|`(tactic|walk_at"O")=>`(tactic|refine⟨Hs,ρ,ag,_,sr,h,λvs H1 ay ps As g1 r1 f1 q1=>?_⟩)
|`(tactic|walk_at"P")=>`(tactic|refine⟨Hs,ρ,ag,_,sr,h,λv H1 ay m d As g1 r1 f1 q1=>?_⟩)
|`(tactic|walk_at"Q")=>`(tactic|obtain⟨sl,e1⟩:=I.base.slot b o e n hb hx)
|`(tactic|walk_at"R")=>`(tactic|obtain⟨Hs,ρ,ag,Q,sr,h,fin⟩:=h)
|`(tactic|walk_at"S")=>`(tactic|cases (show u=Value.ref a from rx))
|`(tactic|walk_at"T")=>`(tactic|refine⟨v,As,B++t,by simpa using a,b,c,d.trans (pV _ _),λaI H2 fl2 d2 fN s2 r2 ne2 mh dj st=>?_⟩)
|`(tactic|walk_at"U")=>`(tactic|exact n1 _ ⟨_,rfl⟩ (show(decide (lo<=c/\c<=hi) && true)=false by rw[decide_eq_false (by lia)];rfl))
|`(tactic|walk_at"V")=>`(tactic|refine wpS_bind (aP (by lia) λp e=>?_))
|`(tactic|walk_at"W")=>`(tactic|refine ai (wpAny_setState_of ho hd hf ?_))
|`(tactic|walk_at"X")=>`(tactic|refine ai (ai (wpAny_askSetting (aE ?_))))
|`(tactic|walk_at"Y")=>`(tactic|have rm:RM K aI H2 (.ow true) (.list acc) (.ref b) (b :: As):=⟨.list (by lia) c.eD c.ra,by simp⟩)
|`(tactic|walk_at"Z")=>`(tactic|obtain⟨oc,od,kV,doc,pm,an,bT,ct,AU,rfl,lk,oS⟩:=F.ex)
|`(tactic|walk_at"aa")=>`(tactic|obtain⟨c',rS⟩:=gZ (env:=X.env) (cs:=[]) (Or.inl c4))
|`(tactic|walk_at"ab")=>`(tactic|have c:MC prog w A s κ r P a b:=⟨C,Vf,Vg,hA,hB,λi hi=>wd h0 (hA 0 i (bE _) (dy _) hi),hg⟩)
|`(tactic|walk_at"ac")=>`(tactic|intro pins s σ H D I h)
|`(tactic|walk_at"ad")=>`(tactic|have r1:=rx.rep w)
|`(tactic|walk_at"ae")=>`(tactic|exact I1.AR (bE _) (I1.aS.fresh (bE _)))
|`(tactic|walk_at"af")=>`(tactic|simp only[show Builtin.Dict_items.ownsTuple "dict_keyiterator" = false by decide,gX,if_false])
|`(tactic|walk_at"ag")=>`(tactic|refine .inl ⟨rfl,rfl,R.F (by decide +kernel) ?_⟩)
|`(tactic|walk_at"ah")=>`(tactic|exact Fin.after f g1 (.ref b) H2 _ (.ow true) (.list acc) fI (g_ g1.wf c.sm c.sr.wf) r' fr q2)
|`(tactic|walk_at"ai")=>`(tactic|refine ai (m:=slotArgs "__next__" 0 ⟨[.ref I],[]⟩) (wpAny_of_eq (a:=(.ref I,[])) rfl ?_))
|`(tactic|walk_at"aj")=>`(tactic|refine Calls.call_function_entry kind_sorted plain_sorted entry_sorted (args_sorted1 _) ?_)
|`(tactic|walk_at"ak")=>`(tactic|refine⟨Vz,ku,d6,c6,c6.push r6 q6.1 f6.1 λa ha=>⟨(f6.2 a ha).1,λm=>?_⟩,q6.2⟩)
|`(tactic|walk_at"al")=>`(tactic|have hk:X.env.scope.names.lookup x=some .local:=hk)
|`(tactic|walk_at"am")=>`(tactic|refine(show wpAny _ _ (if (Value.ref d == Value.none)=true then _ else _) _ _ s from ?_))
|`(tactic|walk_at"an")=>`(tactic|refine wpS_bind (oV C nI qk (by lia) (by lia) ?_))
|`(tactic|walk_at"ao")=>`(tactic|obtain⟨bm,N,nm,q,bs,hdct,sn,sub,ab,col,dd,k0,k1,k2,k3,k5,mN,hC,hN,BG,T⟩:=x.obj X)
|`(tactic|walk_at"ap")=>`(tactic|show(eQ tn.length ix σ).length=(tn++cn).length)
|`(tactic|walk_at"aq")=>`(tactic|show _/\(rh M (ps M h n)).j+(rh M (ps M h n)).more<=M/\_/\(rh M (ps M h n)).more<=9)
|`(tactic|walk_at"ar")=>`(tactic|refine ai (wpAny_newObj_type ?_ (by size_fits)))
|`(tactic|walk_at"as")=>`(tactic|exact aE ⟨rfl,rfl,λu Fm=>mM u (cK _ Fm)⟩)
|`(tactic|walk_at"at")=>`(tactic|exact PySem.W.kia_one PySem.W.kitx_dict I.kc ⟨o,h1,h2.1⟩ e (λz=>nomatch z) h)
|`(tactic|walk_at"au")=>`(tactic|exact PySem.W.kia_one PySem.W.kitx_list I.kc ⟨_,h1,rfl⟩ e (λz=>nomatch z) h)
|`(tactic|walk_at"av")=>`(tactic|obtain⟨v,o,ho,hd⟩:=I3.cell x c (sub x c e))
|`(tactic|walk_at"aw")=>`(tactic|have e2:σ[j]?.join=some v:=Option.some.inj e2)
|`(tactic|walk_at"ax")=>`(tactic|exact(J.pin (b,o) (dQ _ (dQ _ (CF hb e)))).2.1)
|`(tactic|walk_at"ay")=>`(tactic|cases (show u=Value.ref b from ry))
|`(tactic|walk_at"az")=>`(tactic|refine ai (wpAny_setState_of ho hd T.fits ?_))
|`(tactic|walk_at"aA")=>`(tactic|exact⟨o,e,λv z=>by rw[d] at z;cases z⟩)
|`(tactic|walk_at"aB")=>`(tactic|simp only[sliceBounds,HT.bI,Option.getD_none,show(1:Int)>0 by decide,if_true])
|`(tactic|walk_at"aC")=>`(tactic|rw[if_neg (by intro h;simp at h)])
|`(tactic|walk_at"aD")=>`(tactic|refine .inl ⟨rfl,?_⟩)
|`(tactic|walk_at"aE")=>`(tactic|rw[if_neg (show ¬ ((Value.ref d == Value.none)=true) by intro h;cases h)])
|`(tactic|walk_at"aF")=>`(tactic|refine⟨by rw[B.1];decide,?_⟩)
|`(tactic|walk_at"aG")=>`(tactic|obtain⟨u,rfl,ru⟩:=Vals.one r)
|`(tactic|walk_at"aH")=>`(tactic|obtain⟨iA,g3,rd⟩:=S.kM i aI H2 x H3 ds[i] c.sm c.sr.wf (by simp[eu]) y)
|`(tactic|walk_at"aI")=>`(tactic|simpa using this)
|`(tactic|walk_at"aJ")=>`(tactic|obtain⟨y,c1,c2,c3,c4,c5⟩:=O.cap _ _ q)
|`(tactic|walk_at"aK")=>`(tactic|have NF:=I7.pinned (x6 EL) (T.obj _ _ tT))
|`(tactic|walk_at"aL")=>`(tactic|refine(M.perm.append_right [y]).trans ?_)
|`(tactic|walk_at"aM")=>`(tactic|obtain⟨v,vs,rfl,rfl,rs⟩:=Paired.c hv)
|`(tactic|walk_at"aN")=>`(tactic|exact⟨ds.length-(i+1),by lia,rfl,eu,iA,Bn,acc,ys,As,c3,by lia,q3⟩)
|`(tactic|walk_at"aO")=>`(tactic|exact⟨.inl rfl,h2 _ ⟨_,rfl⟩ rfl⟩)
|`(tactic|walk_at"aP")=>`(tactic|refine wpAny_Call_Name_kw (CB I hg hm hv ?_ (by decide) (by decide)))
|`(tactic|walk_at"aQ")=>`(tactic|refine wpAny_Call_Name_kw (CB I Fu qq VW ?_ (by decide) (by decide)))
|`(tactic|walk_at"aR")=>`(tactic|obtain⟨ws,Bs,sb,pd,ew⟩:=Al (k:=key) rx hx (rs.grow g3.sh g3.all))
|`(tactic|walk_at"aS")=>`(tactic|rintro ds Q ⟨x,rfl,h⟩)
|`(tactic|walk_at"aT")=>`(tactic|simp only[gX,if_false])
|`(tactic|walk_at"aU")=>`(tactic|refine⟨iA,gp,[],ds[i],_,c3.sr,rd,q2,λVy ku O0 E8 m4 q4=>?_⟩)
|`(tactic|walk_at"aV")=>`(tactic|refine ai (wpAny_storeSet_of ho hd ?_ (by rw[Ap,sizeLine_eq];lia)))
|`(tactic|walk_at"aW")=>`(tactic|obtain⟨t',rfl⟩:=ry)
|`(tactic|walk_at"aX")=>`(tactic|exact wpS_bind (jx (wpS_pure (Y _ (hm.set _) _ _ _ _ M h1 h2 hN))))
|`(tactic|walk_at"aY")=>`(tactic|simp only[ui,decide_false,gX,if_false])
|`(tactic|walk_at"aZ")=>`(tactic|rw[if_neg (by simp)])
|`(tactic|walk_at"ba")=>`(tactic|rw[fR (eL (by rw[<- hD];exact da ho))])
|`(tactic|walk_at"bb")=>`(tactic|refine⟨_,rfl,?_⟩)
|`(tactic|walk_at"bc")=>`(tactic|rintro n s5 ⟨i,τ,H5,I5,tF,zk,w5⟩)
|`(tactic|walk_at"bd")=>`(tactic|refine hN _ ⟨ps++[_],_,_,by rw[kK,Rm];lia,λp ic=>?_,rfl⟩)
|`(tactic|walk_at"be")=>`(tactic|obtain⟨z,hd,xs,rel,dd⟩:=MS I.aS e)
|`(tactic|walk_at"bf")=>`(tactic|obtain⟨z,hd,vs,rel,dd⟩:=HL I.aS e)
|`(tactic|walk_at"bg")=>`(tactic|obtain⟨o,ho,_⟩:=T.obj _ _ mE b hb)
|`(tactic|walk_at"bh")=>`(tactic|refine⟨Hs,ρ,ag,_,sr,h,λJ H1 ay ds g1 S hz q1 b hb=>?_⟩)
|`(tactic|walk_at"bi")=>`(tactic|refine wpAny_holding (ai (wpAny_setState_of ho hd T.fits ?_)))
|`(tactic|walk_at"bj")=>`(tactic|obtain⟨o,e,d⟩:=T.obj _ _ tT b hb)
set_option hygiene true
theorem L2.fe{α β:Type _}{A B C:α->β->Prop}{G:Prop}(x:∃ a b,A a b/\B a b/\C a b)(k:∀ a b,A a b->B a b->C a b->G):G :=
 let ⟨a,b,p,q,r⟩:=x
 k a b p q r
set_option Elab.async false
set_option linter.all false
set_option maxRecDepth 100000
namespace L2
open PySem PySem.Spec PyProof.Rows
abbrev Key:=Sum Int Str
def ED:Key->Value->Bool
 |.inl k,v=>Value.isInt k v
 |.inr x,v=>Value.isStrOf x v
def fx'(w:World):Key->Int
 |.inl k=>hashInt k
 |.inr x=>hashStr w x
theorem y8:∀ {k:Key} {v:Value},ED k v=true->(∃ i t,k=Sum.inl i/\v=Value.int i t)\/(∃ x t,k=Sum.inr x/\v=Value.str x t)
 |.inl i,v,h=>by obtain⟨t,e⟩:=Value.isInt_shape (k:=i) (v:=v) h;exact .inl ⟨i,t,rfl,e⟩
 |.inr x,v,h=>by obtain⟨t,e⟩:=Value.isStrOf_shape (x:=x) (v:=v) h;exact .inr ⟨x,t,rfl,e⟩
theorem aX'(i:Int)(t:Tok):ED (.inl i) (.int i t)=true:=by simp[ED,Value.isInt]
theorem aY'(x:Str)(t:Tok):ED (.inr x) (.str x t)=true:=by simp[ED,Value.isStrOf]
theorem aZ'(a b:Int):decide ((Sum.inl a:Key)=Sum.inl b)=(a == b):=by
 by_cases e:a=b
 ·subst e;simp
 ·have h:¬ (Sum.inl a:Key)=Sum.inl b:=λq=>e (Sum.inl.inj q);rw[decide_eq_false h];exact(beq_eq_false_iff_ne.mpr e).symm
theorem ba'(a b:Str):decide ((Sum.inr a:Key)=Sum.inr b)=decide (a=b):=by
 by_cases e:a=b
 ·subst e;simp
 ·have h:¬ (Sum.inr a:Key)=Sum.inr b:=λq=>e (Sum.inr.inj q);rw[decide_eq_false h,decide_eq_false e]
theorem fy'(a:Int)(b:Str):decide ((Sum.inl a:Key)=Sum.inr b)=false:=decide_eq_false (λq=>nomatch q)
theorem fz'(a:Str)(b:Int):decide ((Sum.inr a:Key)=Sum.inl b)=false:=decide_eq_false (λq=>nomatch q)
def kL(prog:Program)(w:World):PySem.KeyKind prog w Key where
 is:=ED
 hash:=fx' w
 inj:=λv a b ha hb=>by
  rcases y8 ha with⟨i,t,rfl,rfl⟩|⟨x,t,rfl,rfl⟩
  ·rcases y8 hb with⟨j,u,rfl,e⟩|⟨y,u,rfl,e⟩
   ·injection e with e1 _;rw[e1]
   ·exact nomatch e
  ·rcases y8 hb with⟨j,u,rfl,e⟩|⟨y,u,rfl,e⟩
   ·exact nomatch e
   ·injection e with e1 _;rw[e1]
 byValue:=λk v h=>by rcases y8 h with⟨i,t,rfl,rfl⟩|⟨x,t,rfl,rfl⟩<;>rfl
 pyHash:=λhv h=>by
  rcases y8 hv with⟨i,t,rfl,rfl⟩|⟨x,t,rfl,rfl⟩
  ·exact wpAny_pyHash_int h
  ·exact wpAny_pyHash_str h
 eqBool:=λhu hv h=>by
  rcases y8 hu with⟨i,t,rfl,rfl⟩|⟨x,t,rfl,rfl⟩
  ·rcases y8 hv with⟨j,u,rfl,rfl⟩|⟨y,u,rfl,rfl⟩
   ·rw[aZ'] at h;exact wpAny_eqBool_int h
   ·rw[fy'] at h;exact SeqAt.EqAt.int_str i t y u _ _ _ _ h
  ·rcases y8 hv with⟨j,u,rfl,rfl⟩|⟨y,u,rfl,rfl⟩
   ·rw[fz'] at h;exact SeqAt.EqAt.str_int x t j u _ _ _ _ h
   ·rw[ba'] at h;exact wpAny_eqBool_str h
 «strs» := λk x t v h=>by
  rcases y8 h with⟨i,u,rfl,e⟩|⟨y,u,rfl,e⟩
  ·exact nomatch e
  ·injection e with e1 _;subst e1;cases v<;>rfl
theorem fA'(prog:Program)(w:World)(k:Key)(v:Value):(kL prog w).is k v=ED k v:=rfl
theorem fB'(prog:Program)(w:World)(i:Int)(t:Tok):(kL prog w).is (.inl i) (.int i t)=true:=aX' i t
theorem fC'(prog:Program)(w:World)(x:Str)(t:Tok):(kL prog w).is (.inr x) (.str x t)=true:=aY' x t
inductive V where
 |non|bl (b:Bool)|int (i:Int)|str (x:Str)|rL (b:Array UInt8)|AJ (b:UInt64)|ref (a:Addr)|ty (n:String)
 deriving DecidableEq
def RelV:V->Value->Prop
 |.non,u=>u=Value.none
 |.bl b,u=>u=Value.bool b
 |.int i,u=>∃ t,u=Value.int i t
 |.str x,u=>∃ t,u=Value.str x t
 |.rL b,u=>∃ t,u=Value.bytes b t
 |.AJ b,u=>∃ t,u=Value.float b t
 |.ref a,u=>u=Value.ref a
 |.ty n,u=>u=Value.type n
abbrev Vals:List V->List Value->Prop:=Paired RelV
theorem Vals.length{xs:List V}{us:List Value}(r:Vals xs us):xs.length=us.length:=Paired.length r
theorem Vals.get:∀ {xs:List V} {us:List Value} {i:Nat} {x:V},Vals xs us->xs[i]? = some x->∃ u,us[i]? = some u/\RelV x u
 |_,_,_,_,.nil,e=>by simp at e
 |_,_,0,_,.cons r _,e=>by simp at e;subst e;exact⟨_,rfl,r⟩
 |_,_,i+1,x,.cons _ t,e=>by obtain⟨u,h1,h2⟩:=Vals.get (i:=i) (x:=x) t (by simpa using e);exact⟨u,by simpa using h1,h2⟩
theorem Vals.set{x:V}{u:Value}(r:RelV x u):∀ {xs:List V} {us:List Value} (i:Nat),Vals xs us->Vals (xs.set i x) (us.set i u)
 |_,_,_,.nil=>.nil
 |_,_,0,.cons _ t=>.cons r t
 |_,_,i+1,.cons q t=>.cons q (Vals.set r i t)
theorem Vals.append:∀ {xs ys:List V} {us ws:List Value},Vals xs us->Vals ys ws->Vals (xs++ys) (us++ws)
 |_,_,_,_,.nil,s=>s
 |_,_,_,_,.cons r t,s=>.cons r (Vals.append t s)
theorem Vals.take:∀ {xs:List V} {us:List Value} (n:Nat),Vals xs us->Vals (xs.take n) (us.take n)
 |_,_,0,_=>.nil
 |_,_,_+1,.nil=>.nil
 |_,_,n+1,.cons r t=>.cons r (Vals.take n t)
theorem Vals.drop:∀ {xs:List V} {us:List Value} (n:Nat),Vals xs us->Vals (xs.drop n) (us.drop n)
 |_,_,0,r=>r
 |_,_,_+1,.nil=>.nil
 |_,_,n+1,.cons _ t=>Vals.drop n t
def xD:Option V->Option Value->Prop
 |some v,some u=>RelV v u
 |none,none=>True
 |_,_=>False
def KV{κ:Type}:List (κ × V)->List (κ × Value)->Prop:=Paired λ(p:κ × V) (q:κ × Value)=>p.1=q.1/\RelV p.2 q.2
def kV:Key->V
 |.inl i=>.int i
 |.inr x=>.str x
inductive HO where
 /-- a list -/
 |lst (xs:List V)
 /-- a tuple (never changes) -/
 |tup (xs:List V)
 /-- a dict whose keys are ints and texts;one whose keys are tuples of ints and texts (the empty one is both) -/
 |dK (ae:List (Key × V))|dT (ae:List (List Key × V))
 /-- a set of ints: its members,its size -/
 |set (S:Int->Bool) (n:Nat)
 /-- an instance of the class at C,its dict at dx,its attributes -/
 |ins (C dx:Addr) (fs:List (Str × V))
 /-- the dict of the instance at x -/
 |own (x:Addr)
 /-- the dict of an exception -/
 |xd (fs:List (Str × V))
 /-- a bound method,f of x -/
 |met (f x:Addr)
 /-- a range object lo,lo+1,.. below hi -/
 |RN (lo hi:Int)
 /-- a thing that is known to the object (the script;a dict while a loop walks it): read,never written while it is so -/
 |mB (o:Obj) (u:HO)
 /-- a code object's table -/
 |B8 (ps:Array Value)
 /-- any other thing,by what is true of its one object (a def of oe' own: of' a S n:=HO.ext fun h=>..) -/
 |ext (φ:Heap->Prop)
abbrev Hp:=Addr->Option HO
def upd(H:Hp)(a:Addr)(o:HO):Hp:=λb=>if b=a then some o else H b
theorem iL{H:Hp}{a:Addr}{o:HO}:upd H a o a=some o:=by unfold upd;rw[if_pos rfl]
theorem fR{H:Hp}{a b:Addr}{o:HO}(h:b≠a):upd H a o b=H b:=by unfold upd;rw[if_neg h]
theorem fD'{H:Hp}{a b:Addr}{o u:HO}(h:H a=some o)(h':H b=some u)(d:o≠u):a≠b:=by intro e;subst e;rw[h] at h';exact d (Option.some.inj h')
theorem GP{H:Hp}{a b:Addr}{o:HO}(h:H a=some o)(h':H b=none):a≠b:=by intro e;subst e;rw[h] at h';cases h'
section
variable (P:Program)(w:World)
def fh(H:Hp)(h:Heap)(a:Addr):HO->Prop
 |.lst xs=>xs.length<=sizeLine/\∃ (its:List Value) (n:Nat),Vals xs its/\h.get? a=some { cls:=.type "list",data:=.seq its.toArray n }
 |.tup xs=>xs.length<=sizeLine/\∃ its:List Value,Vals xs its/\IsTup h a its.toArray
 |.dK ae=>ae.length<=sizeLine/\(a == sysModules)=false/\∃ vs,KV ae vs/\h.DictOf (kL P w) a vs
 |.dT ae=>ae.length<=sizeLine/\(a == sysModules)=false/\∃ xs:List (List Key × Addr × Value),
   Paired (λ(p:List Key × V) (q:List Key × Addr × Value)=>p.1=q.1/\H q.2.1=some (.tup (p.1.map kV))/\RelV p.2 q.2.2) ae xs /\
   ∃ o es ep,h.get? a=some o/\o.ExactDict/\o.data=.dict es ep/\es.toList=xs.map (entryOfKey (tupleKind (kL P w)))/\(xs.map (·.1)).Nodup
 |.set S n=>h.SetOf (intKind P w) a S n
 |.ins C dx fs=>H dx=some (.own a)/\fs.length<=1000/\dx≠a/\h.get? a=some (PySem.W.instObj C dx) /\
   ∃ mA,h.Ns1 dx mA/\(∀ f,xD (fs.lookup f) (mA f))/\PySem.Within mA (fs.map (·.1))
 |.own _=>∃ o,h.get? a=some o
 |.xd fs=>∃ mA,h.Ns1 a mA/\∀ f,xD (fs.lookup f) (mA f)
 |.RN lo hi=>∃ t u v,h.get? a=some { cls:=.type "range",data:=.fields #[.int lo t,.int hi u,.int 1 v] }
 |.mB o u=>h.get? a=some o/\fh H h a u
 |.B8 ps=>h.get? a=some { cls:=.none,data:=.fields ps }
 |.met f x=>h.get? a=some (PySem.W.methodObj (.ref f) (.ref x))
 |.ext φ=>φ h/\(∃ o,h.get? a=some o)/\∀ h1 h2:Heap,φ h1->(∀ o,h1.get? a=some o->h2.get? a=some o)->φ h2
def fE(H:Hp)(h:Heap):Prop:=∀ a o,H a=some o->fh P w H h a o
end
section
variable {P:Program}{w:World}{H H':Hp}{h h':Heap}{a:Addr}{o:HO}
theorem fh.lt(x:fh P w H h a o):a<h.objs.size:=by
 cases o with
 |lst xs=>obtain⟨_,_,_,_,e⟩:=x;exact da e
 |tup xs=>obtain⟨_,_,_,p⟩:=x;exact p.lt
 |dK ae=>obtain⟨_,_,_,_,o,_,_,e,_⟩:=x;exact da e
 |dT ae=>obtain⟨_,_,_,_,o,_,_,e,_⟩:=x;exact da e
 |set S n=>obtain⟨o,_,_,_,e,_⟩:=x;exact da e
 |ins C dx fs=>obtain⟨_,_,_,e,_⟩:=x;exact da e
 |own y=>obtain⟨_,e⟩:=x;exact da e
 |xd fs=>obtain⟨_,⟨_,_,_,e,_⟩,_⟩:=x;exact da e
 |RN lo hi=>obtain⟨_,_,_,e⟩:=x;exact da e
 |mB ob u=>obtain⟨e,_⟩:=x;exact da e
 |B8 ps=>exact da (show h.get? a=some _ from x)
 |met f y=>exact da (show h.get? a=some _ from x)
 |ext φ=>obtain⟨_,⟨_,e⟩,_⟩:=x;exact da e
theorem Paired.Ur{α β:Type}{F G:α->β->Prop}:∀ {bb':List α} {bc':List β},Paired F bb' bc'->(∀ a b,F a b->G a b)->Paired G bb' bc'
 |_,_,.nil,_=>.nil
 |_,_,.cons r t,f=>.cons (f _ _ r) (Paired.Ur t f)
theorem fh.fA(x:fh P w H h a o)(k:∀ b u,(b=a\/H b=some (.own a))->h.get? b=some u->h'.get? b=some u)(ho:∀ b,H b=some (.own a)->H' b=some (.own a)) (ht:∀ b xs,H b=some (.tup xs)->H' b=some (.tup xs)):fh P w H' h' a o:=by
 induction o with
 |lst xs=>obtain⟨z,its,n,r,e⟩:=x;exact⟨z,its,n,r,k _ _ (.inl rfl) e⟩
 |tup xs=>obtain⟨z,its,r,ob,e,c⟩:=x;exact⟨z,its,r,ob,k _ _ (.inl rfl) e,c⟩
 |dK ae=>obtain⟨z,y,vs,r,ob,es,ep,e,c⟩:=x;exact⟨z,y,vs,r,ob,es,ep,k _ _ (.inl rfl) e,c⟩
 |dT ae =>obtain⟨z,y,xs,r,ob,es,ep,e,c⟩:=x;exact⟨z,y,xs,Paired.Ur r λp q z=>⟨z.1,ht _ _ z.2.1,z.2.2⟩,ob,es,ep,k _ _ (.inl rfl) e,c⟩
 |set S n=>obtain⟨ob,es,ep,t,e,c⟩:=x;exact⟨ob,es,ep,t,k _ _ (.inl rfl) e,c⟩
 |ins C dx fs =>obtain⟨d,z,ne,e,mA,⟨od,es,ep,e2,c⟩,r⟩:=x;exact⟨ho _ d,z,ne,k _ _ (.inl rfl) e,mA,⟨od,es,ep,k _ _ (.inr d) e2,c⟩,r⟩
 |own y=>obtain⟨ob,e⟩:=x;exact⟨ob,k _ _ (.inl rfl) e⟩
 |xd fs=>obtain⟨mA,⟨od,es,ep,e,c⟩,r⟩:=x;exact⟨mA,⟨od,es,ep,k _ _ (.inl rfl) e,c⟩,r⟩
 |RN lo hi=>obtain⟨t,u,v,e⟩:=x;exact⟨t,u,v,k _ _ (.inl rfl) e⟩
 |mB ob u ih=>obtain⟨e,q⟩:=x;exact⟨k _ _ (.inl rfl) e,ih q⟩
 |B8 ps =>have e:h.get? a=some { cls:=.none,data:=.fields ps }:=x;show h'.get? a=some { cls:=.none,data:=.fields ps };exact k a _ (.inl rfl) e
 |met f y =>have e:h.get? a=some (PySem.W.methodObj (.ref f) (.ref y)):=x;show h'.get? a=some (PySem.W.methodObj (.ref f) (.ref y));exact k a _ (.inl rfl) e
 |ext φ=>obtain⟨p,⟨o,e⟩,st⟩:=x;exact⟨st _ _ p λo q=>k _ _ (.inl rfl) q,⟨o,k _ _ (.inl rfl) e⟩,st⟩
theorem fE.lt(x:fE P w H h)(e:H a=some o):a<h.objs.size:=(x a o e).lt
theorem fE.fresh(x:fE P w H h)(e:h.objs.size<=a):H a=none:=by
 cases q:H a with
 |none=>rfl
 |some u=>exact absurd (lP (x.lt q) e) (oi _)
theorem fE.kept(x:fE P w H h)(k:∀ b u,h.get? b=some u->h'.get? b=some u):fE P w H h':=λa o e =>
 (x a o e).fA (λb u _ q=>k b u q) (λ_ q=>q) λ_ _ q=>q
theorem fE.laid(x:fE P w H h)(k:∀ b u,h.get? b=some u->h'.get? b=some u)(hp:h.objs.size<=a)(new:fh P w (upd H a o) h' a o):fE P w (upd H a o) h':=λb u e=>by
 have hn:=x.fresh hp;by_cases hb:b=a
 ·subst hb;rw[iL] at e;cases e;exact new
 ·rw[fR hb] at e;exact(x b u e).fA (λc v _ q=>k c v q) (λc q=>by rw[fR (GP q hn)];exact q) λc xs q=>by rw[fR (GP q hn)];exact q
end
def Rd(H:Hp)(a:Addr)(u:HO):Prop:=H a=some u\/∃ o,H a=some (.mB o u)
theorem Rd.ok{P:Program}{w:World}{H:Hp}{h:Heap}{a:Addr}{u:HO}(r:Rd H a u)(x:fE P w H h):fh P w H h a u:=by
 rcases r with r|⟨o,r⟩
 ·exact x a u r
 ·obtain⟨_,q⟩:=x a _ r;exact q
def LP:Option HO->Prop
 |some (.lst _)=>True
 |some (.dK _)=>True
 |some (.dT _)=>True
 |some (.set _ _)=>True
 |some (.ins _ _ _)=>True
 |some (.ext _)=>True
 |_=>False
section
variable {P:Program}{w:World}{H:Hp}{h h':Heap}{x e:Addr}{o':HO}
theorem fE.write(ok:fE P w H h)(mu:LP (H x))(he:e=x\/H e=some (.own x))(k:∀ b u,b≠e->h.get? b=some u->h'.get? b=some u)(GU:∃ u,h'.get? e=some u)(new:fh P w (upd H x o') h' x o'):fE P w (upd H x o') h':=λb u q=>by
 have bd':∀ c y,H c=some (.own y)->c≠x:=λc y r z=>by subst z;rw[r] at mu;exact mu
 have fE':∀ c xs,H c=some (.tup xs)->c≠x:=λc xs r z=>by subst z;rw[r] at mu;exact mu
 by_cases hb:b=x
 ·subst hb;rw[iL] at q;cases q;exact new
 ·rw[fR hb] at q;by_cases EE:b=e
  ·have q':H b=some (.own x):=by
    rcases he with z|z
    ·exact absurd (EE.trans z) hb
    ·rw[EE];exact z
   rw[q] at q';cases q';obtain⟨v,hv⟩:=GU;exact⟨v,by rw[EE];exact hv⟩
  ·refine(ok b u q).fA (λc v hc r=>k c v ?_ r) (λc r=>by rw[fR (bd' c b r)];exact r) λc xs r=>by rw[fR (fE' c xs r)];exact r
   rcases hc with rfl|hc
   ·exact EE
   ·rintro rfl;rcases he with z|z
    ·exact bd' c b hc z
    ·rw[hc] at z;cases z;exact hb rfl
end
structure Un(fs ex:List Addr)(H H':Hp)(h h':Heap):Prop where
 keep:∀ b o,h.get? b=some o->H b=none->b∉fs->b∉ex->h'.get? b=some o
 slot:∀ b o,h.get? b=some o->H b=none->b∈fs->b∉ex->∃ sl,h'.get? b=some { o with slots:=sl }
 free:∀ b o,h.get? b=some o->H b=none->b∉ex->H' b=none
 there:∀ b o,h.get? b=some o->b∉ex->∃ o',h'.get? b=some o'
 iN:∀ b xs,H b=some (.tup xs)->H' b=some (.tup xs)
 oQ:∀ b o u,H b=some (.mB o u)->H' b=some (.mB o u)
 qc:∀ b ps,H b=some (.B8 ps)->∃ more,H' b=some (.B8 (ps++more))
section
variable {fs ex:List Addr}{H H1 H2:Hp}{h h1 h2 h':Heap}{a x e:Addr}{o:HO}
theorem Un.any(u:Un fs ex H H1 h h1){b:Addr}{ob:Obj}(q:h.get? b=some ob)(n:H b=none)(hx:b∉ex):∃ sl,h1.get? b=some { ob with slots:=sl }:=by
 by_cases hb:b∈fs
 ·exact u.slot b ob q n hb hx
 ·exact⟨ob.slots,u.keep b ob q n hb hx⟩
theorem Un.trans(a:Un fs ex H H1 h h1)(b:Un fs ex H1 H2 h1 h2):Un fs ex H H2 h h2 where
 keep:=λc ob q n hc hx=>b.keep c ob (a.keep c ob q n hc hx) (a.free c ob q n hx) hc hx
 slot:=λc ob q n hc hx=>by obtain⟨sl,e1⟩:=a.slot c ob q n hc hx;obtain⟨LS,e2⟩:=b.slot c _ e1 (a.free c ob q n hx) hc hx;exact⟨LS,e2⟩
 free:=λc ob q n hx=>by obtain⟨o',e1⟩:=a.there c ob q hx;exact b.free c o' e1 (a.free c ob q n hx) hx
 there:=λc ob q hx=>by obtain⟨o',e1⟩:=a.there c ob q hx;exact b.there c o' e1 hx
 iN:=λc xs q=>b.iN c xs (a.iN c xs q)
 oQ:=λc ob xs q=>b.oQ c ob xs (a.oQ c ob xs q)
 qc:=λc ps q=>by obtain⟨m1,e1⟩:=a.qc c ps q;obtain⟨m2,e2⟩:=b.qc c _ e1;exact⟨m1++m2,by rw[e2,GN]⟩
theorem Un.kept(k:∀ b u,h.get? b=some u->h'.get? b=some u):Un fs ex H H h h' :=
 ⟨λb ob q _ _ _=>k b ob q,λb ob q _ _ _=>⟨ob.slots,k b ob q⟩,λ_ _ _ n _=>n,λb ob q _=>⟨ob,k b ob q⟩,λ_ _ q=>q,λ_ _ _ q=>q,λ_ ps q=>⟨#[],by rw[q];simp⟩⟩
theorem Un.refl:Un fs ex H H h h:=Un.kept λ_ _ q=>q
theorem Un.laid(k:∀ b u,h.get? b=some u->h'.get? b=some u)(hp:h.objs.size<=a)(hn:H a=none):Un fs ex H (upd H a o) h h' where
 keep:=λb u q _ _ _=>k b u q
 slot:=λb u q _ _ _=>⟨u.slots,k b u q⟩
 free:=λb u q n _=>by rw[fR (eL (lP (da q) hp))];exact n
 there:=λb u q _=>⟨u,k b u q⟩
 iN:=λb xs q=>by rw[fR (GP q hn)];exact q
 oQ:=λb u xs q=>by rw[fR (GP q hn)];exact q
 qc:=λb ps q=>⟨#[],by rw[fR (GP q hn),q];simp⟩
theorem Un.write(mu:LP (H x))(he:e=x\/H e=some (.own x))(k:∀ b u,b≠e->h.get? b=some u->h'.get? b=some u)(GU:∃ u,h'.get? e=some u):Un fs ex H (upd H x o) h h':=by
 have hx:∀ b,H b=none->b≠x:=λb n z=>by subst z;rw[n] at mu;exact mu
 have hb:∀ b,H b=none->b≠e:=λb n z=>by
  subst z;rcases he with r|r
  ·exact hx b n r
  ·rw[n] at r;cases r
 have hm:∀ b u,H b=some u->¬ LP (some u)->b≠x:=λb u q nm z=>by subst z;rw[q] at mu;exact nm mu
 refine⟨λb u q n _ _=>k b u (hb b n) q,λb u q n _ _=>⟨u.slots,k b u (hb b n) q⟩,λb u q n _=>by rw[fR (hx b n)];exact n,λb u q _=>?_,
  λb xs q=>by rw[fR (hm b _ q λz=>z)];exact q,λb u xs q=>by rw[fR (hm b _ q λz=>z)];exact q,λb ps q=>⟨#[],by rw[fR (hm b _ q λz=>z),q];simp⟩⟩
 by_cases EE:b=e
 ·subst EE;exact GU
 ·exact⟨u,k b u EE q⟩
end
def RP(h:Heap)(H:Hp):List Addr:=(List.range h.objs.size).filter λa=>(H a).isSome
def AK(h:Heap)(H:Hp):Heap:=PySem.W.hideAll h (RP h H)
theorem fF'(h:Heap)(H:Hp):(AK h H).objs.size=h.objs.size:=PySem.W.hideAll_size _ _
theorem fG'{h:Heap}{H:Hp}{b:Addr}{o:Obj}(e:h.get? b=some o)(n:H b=none):(AK h H).get? b=some o :=
 PySem.W.hideAll_get _ e λhm=>by have q:(H b).isSome=true:=(D7.mp hm).2;rw[n] at q;simp at q
theorem fH'{h:Heap}{H:Hp}{b:Addr}{o:Obj}(e:(AK h H).get? b=some o):h.get? b=some o/\H b=none:=by
 have e':h.get? b=some o:=PySem.W.of_hideAll (RP h H) e;refine⟨e',?_⟩
 cases q:H b with
 |none=>rfl
 |some x =>have hm:b∈RP h H:=D7.mpr ⟨rq.mpr (da e'),by simp[q]⟩;have z:(AK h H).get? b=none:=PySem.W.hideAll_none (RP h H) hm;rw[z] at e;cases e
def fI'(g h:Heap)(L:Addr):List (Addr × Obj):=(List.range h.objs.size).filterMap λa=>if a=L\/(g.get? a).isSome=true then none else (h.get? a).map λo=>(a,o)
def rest(g h:Heap)(L d:Addr):List (Addr × Obj):=(fI' g h L).filter λp=>decide (p.1≠d)
structure Mod(K:PySem.W.Frag)(mg:Str->Option Value)(base:Heap):Prop where
 RQ:K.In base
 glob:base.Ns mainGlobals mg
 blt:∃ mb,base.Ns builtinsNs mb/\∀ x:Str,x ≠ "__name__"->mb x=bootBuiltins x
 nolimit:base.NoLimit
structure Cx where
 prog:Program
 w:World
 K:PySem.W.Frag
 mg:Str->Option Value
 base:Heap
 A:Around
 N:List Str
 df:Shared
 qf:Hp
 env:Env
 outer:List Env
 stack:List Env
 ex:List Addr
 fn:Str->Bool
 calm:Bool
 pn:List (Addr × Obj)
 xe:Value->Shared->Prop
def dz(l:List Env):List Addr:=l.filterMap (·.frame)
abbrev Cx.fs(X:Cx):List Addr:=dz X.outer
def RT(sc:Scope)(x:Str):Prop:=sc.names.lookup x=some .local\/sc.names.lookup x=some .cell\/sc.names.lookup x=some .free
def Loc(sc:Scope)(x:Str):Prop:=sc.names.lookup x=some .local\/sc.names.lookup x=some .cell
def Look(env:Env)(h:Heap)(m:Str->Option Value)(x:Str)(u:Value):Prop :=
 (env.kindOf x=some .local/\m x=some u)\/((env.kindOf x=some .cell\/env.kindOf x=some .free)/\∃ c,env.cells.lookup x=some c/\h.IsCell c (some u))
structure Cx.Ok(X:Cx):Prop where
 mod:Mod X.K X.mg X.base
 kind:X.env.scope.kind=.function
 glob:X.env.globals=mainGlobals
 blt:X.env.builtins=builtinsNs
 above:X.df.heap.objs.size<=X.env.locals
 inj:∀ x y c,X.env.cells.lookup x=some c->X.env.cells.lookup y=some c->x=y
 has:∀ x,(X.env.kindOf x=some .cell\/X.env.kindOf x=some .free)->∃ c,X.env.cells.lookup x=some c
 y9:∀ x c,X.fn x=true->X.env.cells.lookup x=some c->X.df.heap.objs.size<=c
 hd:X.calm=true->X.A.handled=none
 frames:X.A.frames=some X.stack
 AO:X.stack=X.outer\/(X.stack=X.env :: X.outer/\X.env.frame=some X.env.locals)
 tj:∀ b∈X.ex,b≠X.env.locals/\∀ x c,X.env.cells.lookup x=some c->c≠b
 bs:∀ b o,X.base.get? b=some o->X.df.heap.get? b=some o/\X.qf b=none
 tq:X.base.objs.size<=X.df.heap.objs.size
 zh:∀ b o,X.base.get? b=some o->b∉X.ex
 wo:∀ b∈X.ex,b∉X.fs
 qh:X.df.heap.FunFrames X.base X.outer
 xE:∀ b∈X.fs,X.qf b=none
structure Inv(X:Cx)(pins:List (Addr × Obj))(σ:List (Option V))(H:Hp)(s:Shared):Prop where
 ok:X.Ok
 os:s.os=X.df.os
 bare:AllBare s.gens
 base:Un X.fs X.ex X.qf H X.df.heap s.heap
 loc:∃ m,s.heap.Ns X.env.locals m/\∀ (i:Nat) (x:Str) (v:V),X.N[i]? = some x->σ[i]? = some (some v)->RT X.env.scope x->∃ u,RelV v u/\Look X.env s.heap m x u
 cell:∀ x c,X.env.cells.lookup x=some c->∃ v,s.heap.IsCell c v
 free:H X.env.locals=none
 nE:∀ x c,X.env.cells.lookup x=some c->H c=none
 pin:∀ p∈X.pn++pins,s.heap.get? p.1=some p.2/\H p.1=none/\p.1≠X.env.locals/\p.1∉X.fs/\∀ v,p.2.data≠.cell v
 aS:fE X.prog X.w H s.heap
 len:σ.length=X.N.length
section
variable {X:Cx}{pins:List (Addr × Obj)}{σ:List (Option V)}{H H':Hp}{s:Shared}{h':Heap}
theorem Cx.Ok.fJ'(ok:X.Ok){b:Addr}{o:Obj}(e:X.base.get? b=some o):b∉X.fs:=λhb=>by have:=(ok.qh.mem hb).1;rw[e] at this;cases this
theorem Inv.bs(I:Inv X pins σ H s):∀ b o,X.base.get? b=some o->s.heap.get? b=some o/\H b=none:=λb o e =>
 ⟨I.base.keep b o (I.ok.bs b o e).1 (I.ok.bs b o e).2 (I.ok.fJ' e) (I.ok.zh b o e),I.base.free b o (I.ok.bs b o e).1 (I.ok.bs b o e).2 (I.ok.zh b o e)⟩
theorem Inv.bk(I:Inv X pins σ H s):∀ b o,X.base.get? b=some o->s.heap.get? b=some o:=λb o e=>(I.bs b o e).1
theorem Inv.mod(I:Inv X pins σ H s):Mod X.K X.mg X.base:=I.ok.mod
theorem Inv.kc(I:Inv X pins σ H s):X.K.In s.heap:=I.ok.mod.RQ.keeps I.bk
theorem Inv.lt(I:Inv X pins σ H s):X.env.locals<s.heap.objs.size:=let ⟨_,hn,_⟩:=I.loc;hn.lt
theorem Inv.sz(I:Inv X pins σ H s):X.df.heap.objs.size<=s.heap.objs.size:=fP I.ok.above (ky I.lt)
theorem Inv.fK'(I:Inv X pins σ H s){a:Addr}(h:s.heap.objs.size<=a):a∉X.fs:=λhb=>by obtain⟨_,o,ho,_⟩:=I.ok.qh.mem hb;exact absurd (lP (da ho) (fP I.sz h)) (oi _)
theorem Inv.B9(I:Inv X pins σ H s):∀ x c,X.env.cells.lookup x=some c->c≠X.env.locals:=λx c e z=>by obtain⟨v,o,ho,hd⟩:=I.cell x c e;obtain⟨m,⟨o',es,ep,kz,hd',_⟩,_⟩:=I.loc;rw[z,kz] at ho;cases ho;rw[hd'] at hd;cases hd
theorem Inv.qh(I:Inv X pins σ H s):s.heap.FunFrames X.base X.outer:=by
 have all:∀ (l:List Env),(∀ b∈dz l,b∈X.fs)->X.df.heap.FunFrames X.base l->s.heap.FunFrames X.base l:=by
  intro l
  induction l with
  |nil=>intro _ _;trivial
  |cons env r ih =>intro hs hl;obtain⟨hk,⟨L,o,hf,hn,ho,hd⟩,hr⟩:=hl;have hL:L∈X.fs:=hs L (by unfold dz;rw[vS,hf];exact dv);obtain⟨sl,e⟩:=I.base.slot L o ho (I.ok.xE L hL) hL λz=>I.ok.wo L z hL;exact⟨hk,⟨L,_,hf,hn,e,hd⟩,ih (λb hb=>hs b (by unfold dz;rw[vS,hf];exact cK _ hb)) hr⟩
 exact all X.outer (λ_ hb=>hb) I.ok.qh
theorem Inv.stack(I:Inv X pins σ H s):s.heap.FunFrames X.base X.stack:=by
 rcases I.ok.AO with e|⟨e,hf⟩
 ·rw[e];exact I.qh
 ·rw[e];obtain⟨m,hn,_⟩:=I.loc;refine .cons (by rw[I.ok.kind];decide) hf hn ?_ I.qh;exact Heap.get?_none_of_le (fP I.ok.tq I.ok.above)
theorem Inv.RV(I:Inv X pins σ H s):∀ b∈dz X.stack,b∈X.env.locals :: X.fs:=λb hb=>by
 rcases I.ok.AO with e|⟨e,hf⟩
 ·rw[e] at hb;exact cK _ hb
 ·rw[e] at hb;unfold dz at hb;rw[vS,hf] at hb;exact hb
theorem Inv.Us(I:Inv X pins σ H s):∀ b∈dz X.stack,H b=none:=λb hb=>by
 rcases dc.mp (I.RV b hb) with e|hb
 ·rw[e];exact I.free
 ·obtain⟨_,o,ho,_⟩:=I.ok.qh.mem hb;exact I.base.free b o ho (I.ok.xE b hb) λz=>I.ok.wo b z hb
theorem Inv.step{g':Array GenState}{t':Nat}{d':Drawn}{ch:List Addr}(I:Inv X pins σ H s)(zi:∀ b∈ch,(b∈X.ex\/X.df.heap.objs.size<=b)/\b≠X.env.locals/\(∀ x c,X.env.cells.lookup x=some c->c≠b)/\∀ p∈X.pn++pins,p.1≠b)(keep:∀ b o,b≠X.env.locals->b∉X.fs->b∉ch->s.heap.get? b=some o->H b=none->h'.get? b=some o)(slot:∀ b o,b≠X.env.locals->b∈X.fs->b∉ch->s.heap.get? b=some o->H b=none->∃ sl,h'.get? b=some { o with slots:=sl }) (free:∀ b o,b∉ch->s.heap.get? b=some o->H b=none->H' b=none) (there:∀ b o,b∉ch->s.heap.get? b=some o->∃ o',h'.get? b=some o') (iN:∀ b xs,H b=some (.tup xs)->H' b=some (.tup xs)) (oQ:∀ b o u,H b=some (.mB o u)->H' b=some (.mB o u)) (qc:∀ b ps,H b=some (.B8 ps)->∃ more,H' b=some (.B8 (ps++more))) (ns:∀ m,s.heap.Ns X.env.locals m->h'.Ns X.env.locals m) (aS:fE X.prog X.w H' h') (hg:AllBare g') :
  Inv X pins σ H' { s with heap:=h',gens:=g',drawn:=d',toks:=t' }:=by
 have LV:∀ b o,X.df.heap.get? b=some o->b≠X.env.locals:=λb o e=>eL (lP (da e) I.ok.above);have RW:∀ b o,X.df.heap.get? b=some o->b∉X.ex->b∉ch:=λb o e hx hb=>by
  rcases (zi b hb).1 with z|z
  ·exact hx z
  ·exact absurd (lP (da e) z) (oi _)
 have cellK:∀ x c,X.env.cells.lookup x=some c->∀ v,s.heap.IsCell c v->h'.IsCell c v:=λx c e v ck=>by
  obtain⟨o,ho,hd⟩:=ck;have LW:c∉ch:=λz=>(zi c z).2.2.1 x c e rfl;by_cases hc:c∈X.fs
  ·obtain⟨sl,q⟩:=slot c o (I.B9 x c e) hc LW ho (I.nE x c e);exact⟨_,q,hd⟩
  ·exact⟨o,keep c o (I.B9 x c e) hc LW ho (I.nE x c e),hd⟩
 refine⟨I.ok,I.os,hg,⟨λb o e n hb hx=>?_,λb o e n hb hx=>?_,λb o e n hx=>?_,λb o e hx=>?_,λb xs e=>iN b xs (I.base.iN b xs e),λb o xs e=>oQ b o xs (I.base.oQ b o xs e),λb ps e=>?_⟩,?_,λx c e=>?_,?_,λx c e=>?_,λp hp=>?_,aS,I.len⟩
 ·exact keep b o (LV b o e) hb (RW b o e hx) (I.base.keep b o e n hb hx) (I.base.free b o e n hx)
 ·walk_at"Q";obtain⟨LS,e2⟩:=slot b _ (LV b o e) hb (RW b o e hx) e1 (I.base.free b o e n hx);exact⟨LS,e2⟩
 ·walk_at"J";exact free b o' (RW b o e hx) e1 (I.base.free b o e n hx)
 ·walk_at"J";exact there b o' (RW b o e hx) e1
 ·obtain⟨m1,e1⟩:=I.base.qc b ps e;obtain⟨m2,e2⟩:=qc b _ e1;exact⟨m1++m2,by rw[e2,GN]⟩
 ·obtain⟨m,hn,hl⟩:=I.loc;refine⟨m,ns m hn,λi x v e1 e2 e3=>?_⟩;obtain⟨u,r,l⟩:=hl i x v e1 e2 e3;refine⟨u,r,?_⟩;rcases l with l|⟨k,c,e,z⟩
  ·exact .inl l
  ·exact .inr ⟨k,c,e,cellK x c e _ z⟩
 ·obtain⟨v,z⟩:=I.cell x c e;exact⟨v,cellK x c e v z⟩
 ·obtain⟨m,⟨o,_,_,ho,_⟩,_⟩:=I.loc;exact free _ o (λz=>(zi _ z).2.1 rfl) ho I.free
 ·obtain⟨v,o,ho,hd⟩:=I.cell x c e;exact free c o (λz=>(zi c z).2.2.1 x c e rfl) ho (I.nE x c e)
 ·obtain⟨e,n,ne,nf,d⟩:=I.pin p hp;have LW:p.1∉ch:=λz=>(zi p.1 z).2.2.2 p hp rfl;exact⟨keep p.1 p.2 ne nf LW e n,free p.1 p.2 LW e n,ne,nf,d⟩
theorem Inv.un{t':Nat}(I:Inv X pins σ H s)(u:Un X.fs [] H H' s.heap h')(aS:fE X.prog X.w H' h'):Inv X pins σ H' { s with heap:=h',toks:=t' }:=by
 obtain⟨m,⟨o,es,ep,ho,r⟩,_⟩:=id I.loc;obtain⟨sl,hL⟩:=u.any ho I.free (by simp);exact I.step (g':=s.gens) (d':=s.drawn) (ch:=[]) (λ_ z=>nomatch z) (λb o _ hb _ e n=>u.keep b o e n hb (by simp)) (λb o _ hb _ e n=>u.slot b o e n hb (by simp)) (λb o _ e n=>u.free b o e n (by simp)) (λb o _ e=>u.there b o e (by simp)) u.iN u.oQ u.qc (λm' hm=>by
  obtain⟨o',Ut,LZ,kz,r'⟩:=hm;rw[ho] at kz;cases kz;exact⟨_,Ut,LZ,hL,r'⟩) aS I.bare
theorem Inv.call{g':Array GenState}{t':Nat}{d':Drawn}{ch:List Addr}(I:Inv X pins σ H s)(u:Un (dz X.stack) ch H H' s.heap h')(aS:fE X.prog X.w H' h')(hg:AllBare g')(zi:∀ b∈ch,(b∈X.ex\/X.df.heap.objs.size<=b)/\b≠X.env.locals/\(∀ x c,X.env.cells.lookup x=some c->c≠b)/\∀ p∈X.pn++pins,p.1≠b) :
  Inv X pins σ H' { s with heap:=h',gens:=g',drawn:=d',toks:=t' }:=by
 obtain⟨m,⟨o,es,ep,ho,r⟩,_⟩:=id I.loc;obtain⟨sl,hL⟩:=u.any ho I.free λz=>(zi _ z).2.1 rfl;exact I.step (ch:=ch) zi (λb o hL hb hc e n=>u.keep b o e n (λz=>(dc.mp (I.RV b z)).elim hL hb) hc) (λb o _ _ hc e n=>u.any e n hc) (λb o hc e n=>u.free b o e n hc) (λb o hc e=>u.there b o e hc) u.iN u.oQ u.qc (λm' hm=>by
  obtain⟨o',Ut,LZ,kz,r'⟩:=hm;rw[ho] at kz;cases kz;exact⟨_,Ut,LZ,hL,r'⟩) aS hg
theorem Inv.turned{t':Nat}{it:Addr}(I:Inv X pins σ H s)(k:∀ b o,b≠it->s.heap.get? b=some o->h'.get? b=some o)(hn:H it=none)(hL:it≠X.env.locals)(h1:it∈X.ex\/X.df.heap.objs.size<=it) (h2:∀ x c,X.env.cells.lookup x=some c->c≠it) (h3:∀ p∈X.pn++pins,p.1≠it):Inv X pins σ H { s with heap:=h',toks:=t' }:=by
 have EF:∀ b u,H b=some u->b≠it:=λb u e z=>by rw[z,hn] at e;cases e
 refine I.step (g':=s.gens) (d':=s.drawn) (ch:=[it]) (λb hb=>?_) (λb o _ _ hc e _=>k b o (λz=>hc (by simp[z])) e) (λb o _ _ hc e _=>⟨o.slots,k b o (λz=>hc (by simp[z])) e⟩) (λ_ _ _ _ n=>n) (λb o hc e=>⟨o,k b o (λz=>hc (by simp[z])) e⟩) (λ_ _ e=>e) (λ_ _ _ e=>e) (λb ps e=>⟨#[],by rw[e];simp⟩) (λm hm=>?_) (λb u e=>?_) I.bare
 ·have e:b=it:=by simpa using hb
  subst e;exact⟨h1,hL,h2,h3⟩
 ·obtain⟨o,es,ep,ho,r⟩:=hm;exact⟨o,es,ep,k _ o (Ne.symm hL) ho,r⟩
 ·refine(I.aS b u e).fA (λc v hc q=>k c v ?_ q) (λ_ q=>q) λ_ _ q=>q;rcases hc with z|z
  ·rw[z];exact EF b u e
  ·exact EF c _ z
theorem Inv.tok(I:Inv X pins σ H s)(t:Nat):Inv X pins σ H { s with toks:=t }:=I.un (h':=s.heap) (t':=t) Un.refl I.aS
theorem Inv.kept{t':Nat}(I:Inv X pins σ H s)(k:∀ b u,s.heap.get? b=some u->h'.get? b=some u):Inv X pins σ H { s with heap:=h',toks:=t' }:=I.un (Un.kept k) (I.aS.kept k)
theorem Inv.laid{a:Addr}{o:HO}{t':Nat}(I:Inv X pins σ H s)(k:∀ b u,s.heap.get? b=some u->h'.get? b=some u)(hp:s.heap.objs.size<=a)(new:fh X.prog X.w (upd H a o) h' a o) :
  Inv X pins σ (upd H a o) { s with heap:=h',toks:=t' }:=I.un (Un.laid k hp (I.aS.fresh hp)) (I.aS.laid k hp new)
theorem Inv.write{x e:Addr}{o:HO}{t':Nat}(I:Inv X pins σ H s)(mu:LP (H x))(he:e=x\/H e=some (.own x))(k:∀ b u,b≠e->s.heap.get? b=some u->h'.get? b=some u)(GU:∃ u,h'.get? e=some u)(new:fh X.prog X.w (upd H x o) h' x o):Inv X pins σ (upd H x o) { s with heap:=h',toks:=t' }:=I.un (Un.write mu he k GU) (I.aS.write mu he k GU new)
theorem Inv.be'{lS:List (Addr × Obj)}(I:Inv X pins σ H s)(h:∀ p∈lS,s.heap.get? p.1=some p.2/\H p.1=none/\p.1≠X.env.locals/\p.1∉X.fs/\∀ v,p.2.data≠.cell v):Inv X lS σ H s :=
 ⟨I.ok,I.os,I.bare,I.base,I.loc,I.cell,I.free,I.nE,λp hp=>(eI.mp hp).elim (λz=>I.pin p (gE _ z)) (h p),I.aS,I.len⟩
theorem bf'{N:List Str}(hN:N.Nodup){i j:Nat}{x:Str}(a:N[i]? = some x)(b:N[j]? = some x):i=j:=by obtain⟨h1,e1⟩:=pT.mp a;obtain⟨h2,e2⟩:=pT.mp b;exact(List.getElem_inj hN).mp (e1.trans e2.symm)
theorem bg'{M:Model}{A:Around}{E:Value->Shared->Prop}{i:Nat}{x:Str}{v:V}{u:Value}{Q:Unit->Shared->Prop}(I:Inv X pins σ H s)(hN:X.N.Nodup)(hi:X.N[i]? = some x)(hx:Loc X.env.scope x)(r:RelV v u)(h:∀ s',Inv X pins (σ.set i (some v)) H s'->(∃ a,Heap.SameBut a s.heap s'.heap/\(a=X.env.locals\/X.env.cells.lookup x=some a))->Q () s') (hf:X.fn x=true\/X.env.scope.names.lookup x=some .local:=by first|exact .inl rfl|exact .inr rfl|assumption):wpAny M A (storeName X.env x u) Q E s:=by
 obtain⟨m,hn,hl⟩:=id I.loc;have Uu:(X.env.scope.kind == .class || (X.env.scope.kind == .module && X.env.locals != X.env.globals))=false:=by rw[I.ok.kind];rfl
 have bh':i<σ.length:=by rw[I.len];exact(pT.mp hi).1
 have B9:=I.B9;have tracked:∀ {a:Addr} {h':Heap},(∃ o,s.heap.get? a=some o/\H a=none)->Heap.SameBut a s.heap h'->fE X.prog X.w H h':=λ{a h'} ha hs b ob e=>by
  obtain⟨_,_,bi'⟩:=ha;refine(I.aS b ob e).fA (λc w' hc q=>(hs.2 c ?_).trans q) (λ_ q=>q) λ_ _ q=>q;rintro rfl;rcases hc with rfl|hc
  ·rw[bi'] at e;cases e
  ·rw[bi'] at hc;cases hc
 rcases hx with hk|hk
 ·refine wpAny_storeName_local hk hn (λh' RX hs=>?_) Uu;obtain⟨oL,_,_,Cb,_⟩:=id hn;refine h _ ⟨I.ok,I.os,I.bare,⟨λb o e n hb hx=>?_,λb o e n hb hx=>?_,I.base.free,λb o e hx=>?_,I.base.iN,I.base.oQ,I.base.qc⟩,⟨_,RX,λj y v' e1 e2 e3=>?_⟩,λy c e=>?_,I.free,I.nE,λp hp=>?_,tracked ⟨oL,Cb,I.free⟩ hs,by simpa using I.len⟩ ⟨_,hs,.inl rfl⟩
  ·exact(hs.2 b (eL (lP (da e) I.ok.above))).trans (I.base.keep b o e n hb hx)
  ·walk_at"Q";exact⟨sl,(hs.2 b (eL (lP (da e) I.ok.above))).trans e1⟩
  ·walk_at"J";exact⟨o',(hs.2 b (eL (lP (da e) I.ok.above))).trans e1⟩
  ·by_cases hj:j=i
   ·subst hj;rw[hi] at e1;cases e1;rw[List.getElem?_set_self bh'] at e2;cases e2;exact⟨u,r,.inl ⟨hk,by simp⟩⟩
   ·rw[List.getElem?_set_ne (Ne.symm hj)] at e2;obtain⟨u',r',q⟩:=hl j y v' e1 e2 e3;refine⟨u',r',?_⟩;rcases q with⟨k,e⟩|⟨k,c,e,z⟩
    ·refine .inl ⟨k,?_⟩;have:y≠x:=λe=>hj (bf' hN e1 (e ▸ hi));simp[this,e]
    ·exact .inr ⟨k,c,e,z.sameBut hs (B9 y c e)⟩
  ·obtain⟨w',z⟩:=I.cell y c e;exact⟨w',z.sameBut hs (B9 y c e)⟩
  ·obtain⟨e,n,ne,nf,d⟩:=I.pin p hp;exact⟨(hs.2 p.1 ne).trans e,n,ne,nf,d⟩
 ·have Uv:X.fn x=true:=by
   rcases hf with z|z
   ·exact z
   ·rw[z] at hk;cases hk
  obtain⟨c,hc⟩:=I.ok.has x (.inl hk);obtain⟨w',z⟩:=I.cell x c hc;refine wpAny_storeName_cell I.ok.kind hk hc z (λh' rS hs=>?_);obtain⟨oc,RZ,fM'⟩:=id z;refine h { s with heap:=h' } ⟨I.ok,I.os,I.bare,⟨λb o e n hb hx=>?_,λb o e n hb hx=>?_,I.base.free,λb o e hx=>?_,I.base.iN,I.base.oQ,I.base.qc⟩,⟨m,hn.sameBut hs (Ne.symm (B9 x c hc)),λj y v' e1 e2 e3=>?_⟩,λy c' e=>?_,I.free,I.nE,λp hp=>?_,tracked ⟨oc,RZ,I.nE x c hc⟩ hs,by simpa using I.len⟩ ⟨c,hs,.inr hc⟩
  ·exact(hs.2 b (eL (lP (da e) (I.ok.y9 x c Uv hc)))).trans (I.base.keep b o e n hb hx)
  ·walk_at"Q";exact⟨sl,(hs.2 b (eL (lP (da e) (I.ok.y9 x c Uv hc)))).trans e1⟩
  ·walk_at"J";exact⟨o',(hs.2 b (eL (lP (da e) (I.ok.y9 x c Uv hc)))).trans e1⟩
  ·by_cases hj:j=i
   ·subst hj;rw[hi] at e1;cases e1;rw[List.getElem?_set_self bh'] at e2;cases e2;exact⟨u,r,.inr ⟨.inl hk,c,hc,rS⟩⟩
   ·rw[List.getElem?_set_ne (Ne.symm hj)] at e2;obtain⟨u',r',q⟩:=hl j y v' e1 e2 e3;refine⟨u',r',?_⟩;rcases q with q|⟨k,c',e,z'⟩
    ·exact .inl q
    ·refine .inr ⟨k,c',e,z'.sameBut hs ?_⟩;rintro rfl;exact hj (bf' hN e1 (I.ok.inj _ _ _ e hc ▸ hi))
  ·by_cases Ct:c'=c
   ·subst Ct;exact⟨_,rS⟩
   ·obtain⟨w2,z2⟩:=I.cell y c' e;exact⟨w2,z2.sameBut hs Ct⟩
  ·obtain⟨e,n,ne,nf,d⟩:=I.pin p hp;refine⟨(hs.2 p.1 ?_).trans e,n,ne,nf,d⟩;intro q;rw[q,RZ] at e;have q':oc=p.2:=Option.some.inj e;exact d w' (by rw[<- q'];exact fM')
theorem bj'{M:Model}{A:Around}{E:Value->Shared->Prop}{i:Nat}{x:Str}{v:V}{u:Value}{Q:Unit->Shared->Prop}(I:Inv X pins σ H s)(hN:X.N.Nodup)(hi:X.N[i]? = some x)(hx:Loc X.env.scope x)(r:RelV v u)(h:∀ s',Inv X pins (σ.set i (some v)) H s'->Q () s') (hf:X.fn x=true\/X.env.scope.names.lookup x=some .local:=by first|exact .inl rfl|exact .inr rfl|assumption):wpAny M A (storeName X.env x u) Q E s :=
 bg' I hN hi hx r (λs' I' _=>h s' I') hf
theorem Inv.R0{s':Shared}{ch:List Addr}(I:Inv X pins σ H s)(ho:s'.os=s.os)(u:Un (dz X.stack) ch H H' s.heap s'.heap)(aS:fE X.prog X.w H' s'.heap)(hg:AllBare s'.gens)(zi:∀ b∈ch,(b∈X.ex\/X.df.heap.objs.size<=b)/\b≠X.env.locals/\(∀ x c,X.env.cells.lookup x=some c->c≠b)/\∀ p∈X.pn++pins,p.1≠b):Inv X pins σ H' s':=by
 obtain⟨h',g',d',t',o'⟩:=s';have e:o'=s.os:=ho;subst e;exact I.call (g':=g') (t':=t') (d':=d') u aS hg zi
end
abbrev XK:=Value->Option Addr->Hp->Prop
abbrev St:=List (Option V)
abbrev VK:=V->Hp->Prop
abbrev TE:=St->Hp->VK->Prop
abbrev TT:=St->Hp->(Bool->Hp->Prop)->Prop
abbrev TA:=St->Hp->(List V->Hp->Prop)->Prop
structure Ends where
 nx:St->Hp->Prop
 rt:VK
 bk:St->Hp->Prop:=fun _ _=>False
 ct:St->Hp->Prop:=fun _ _=>False
abbrev TS:=Ends->St->Hp->Prop
def EP(X:Cx)(pins:List (Addr × Obj))(σ:St)(Q:VK)(u:Value)(s':Shared):Prop:=∃ v H',Inv X pins σ H' s'/\RelV v u/\Q v H'
def TP(X:Cx)(pins:List (Addr × Obj))(σ:St)(Q:Bool->Hp->Prop)(b:Bool)(s':Shared):Prop:=∃ H',Inv X pins σ H' s'/\Q b H'
def AP(X:Cx)(pins:List (Addr × Obj))(σ:St)(Q:List V->Hp->Prop)(us:List Value)(s':Shared):Prop:=∃ vs H',Inv X pins σ H' s'/\Vals vs us/\Q vs H'
def SP(X:Cx)(pins:List (Addr × Obj))(D:Ends)(f:Flow)(s':Shared):Prop :=
 match f with
 |.next=>∃ bq H',Inv X pins bq H' s'/\D.nx bq H'
 |.brk=>∃ bq H',Inv X pins bq H' s'/\D.bk bq H'
 |.cont=>∃ bq H',Inv X pins bq H' s'/\D.ct bq H'
 |.ret u=>∃ v bq H',Inv X pins bq H' s'/\RelV v u/\D.rt v H'
def PE(X:Cx)(e:Expr)(t:TE):Prop :=
 ∀ (pins:List (Addr × Obj)) (s:Shared) (σ:St) (H:Hp) (Q:VK),Inv X pins σ H s->t σ H Q->wpAny (model X.prog X.w) X.A (eval e X.env) (EP X pins σ Q) X.xe s
def PT(X:Cx)(e:Expr)(t:TT):Prop :=
 ∀ (pins:List (Addr × Obj)) (s:Shared) (σ:St) (H:Hp) (Q:Bool->Hp->Prop),Inv X pins σ H s->t σ H Q->wpAny (model X.prog X.w) X.A (isTrue e X.env (eval e X.env)) (TP X pins σ Q) X.xe s
def PW(X:Cx)(e:Expr)(t:TT):Prop :=
 ∀ (whole:Sem Value) (pins:List (Addr × Obj)) (s:Shared) (σ:St) (H:Hp) (Q:Bool->Hp->Prop),Inv X pins σ H s->t σ H Q->wpAny (model X.prog X.w) X.A (isTrue e X.env whole) (TP X pins σ Q) X.xe s
def PA(X:Cx)(es:List Expr)(t:TA):Prop :=
 ∀ (pos:Pos) (pins:List (Addr × Obj)) (s:Shared) (σ:St) (H:Hp) (Q:List V->Hp->Prop),Inv X pins σ H s->t σ H Q->wpAny (model X.prog X.w) X.A (spliced (backTo pos (starEach es X.env))) (AP X pins σ Q) X.xe s
def PS(X:Cx)(st:Stmt)(t:TS):Prop :=
 ∀ (pins:List (Addr × Obj)) (s:Shared) (σ:St) (H:Hp) (D:Ends),Inv X pins σ H s->t D σ H->wpAny (model X.prog X.w) X.A (exec st X.env) (SP X pins D) X.xe s
def oo(X:Cx)(st:List Stmt)(t:TS):Prop :=
 ∀ (pins:List (Addr × Obj)) (s:Shared) (σ:St) (H:Hp) (D:Ends),Inv X pins σ H s->t D σ H->wpAny (model X.prog X.w) X.A (execs st X.env) (SP X pins D) X.xe s
theorem bX{α:Type}{t:Sem α}{Q Q':α->Shared->Prop}{M:Model}{A:Around}{E:Value->Shared->Prop}{s:Shared}(h:wpAny M A t Q E s)(hQ:∀ a s,Q a s->Q' a s):wpAny M A t Q' E s:=rj h hQ λ_ _ x=>x
section
variable {X:Cx}
def AQ(i:Nat):TE:=λσ H Q=>∃ v,σ[i]? = some (some v)/\Q v H
def tC(v:V):TE:=λ_ H Q=>Q v H
theorem bk' {i:Nat} {x:Str} {pos:Pos} (hN:X.N[i]? = some x) (hv:RT X.env.scope x) (hd:(x == ("__debug__" : Str))=false:=by decide) (oS:(x == ("__classdict__" : Str))=false:=by decide):PE X (.Name x pos) (AQ i):=by
 walk_at"x";obtain⟨v,e,h⟩:=h;obtain⟨m,hn,hl⟩:=I.loc;obtain⟨u,r,l⟩:=hl i x v hN e hv;have fin:EP X pins σ Q u s:=⟨v,H,I,r,h⟩
 rcases l with⟨hk,hm⟩|⟨hk,c,hc,bl'⟩
 ·exact wpAny_Name (wpAny_loadName_local I.ok.kind hk hn hm fin) hd
 ·rcases hk with hk|hk
  ·exact wpAny_Name (wpAny_loadName_cell I.ok.kind hk hc bl' fin) hd
  ·exact wpAny_Name (wpAny_loadName_free I.ok.kind hk hc bl' fin oS) hd
theorem fN'{i j pos}:PE X (.Constant (.int i) j pos) (tC (.int i)):=λ_ _ _ H _ I h=>wpAny_Constant_int ⟨.int i,H,I.tok _,⟨_,rfl⟩,h⟩
theorem fO'{b j pos}:PE X (.Constant (.bool b) j pos) (tC (.bl b)):=λ_ _ _ H _ I h=>Constant_bool ⟨.bl b,H,I,rfl,h⟩
theorem fP'{j pos}:PE X (.Constant .none j pos) (tC .non):=λ_ _ _ H _ I h=>Constant_none ⟨.non,H,I,rfl,h⟩
theorem fQ'{x j pos}:PE X (.Constant (.str x) j pos) (tC (.str x)):=λ_ _ _ H _ I h=>Calls.Constant_str ⟨.str x,H,I.tok _,⟨_,rfl⟩,h⟩
def Gl(X:Cx)(x:Str):Prop:=X.env.kindOf x=some .globalImplicit
theorem R1{E:Value->Shared->Prop}{pins:List (Addr × Obj)}{s:Shared}{σ:St}{H:Hp}{x:Str}{u:Value}{pos:Pos}{Q:Value->Shared->Prop}(I:Inv X pins σ H s)(hg:Gl X x)(hm:X.mg x=some u)(h:Q u s)(hd:(x == ("__debug__" : Str))=false:=by decide):wpAny (model X.prog X.w) X.A (eval (.Name x pos) X.env) Q E s :=
 Calls.Name_function_global I.ok.kind hg (Calls.loadGlobal_global (by rw[I.ok.glob];exact I.mod.glob.keeps I.bk) hm h) hd
theorem CB{E:Value->Shared->Prop}{pins:List (Addr × Obj)}{s:Shared}{σ:St}{H:Hp}{x:Str}{u:Value}{pos:Pos}{Q:Value->Shared->Prop}(I:Inv X pins σ H s)(hg:Gl X x)(hm:X.mg x=none)(hv:bootBuiltins x=some u)(h:Q u s)(hn:x ≠ "__name__" := by decide) (hd:(x == ("__debug__" : Str))=false:=by decide):wpAny (model X.prog X.w) X.A (eval (.Name x pos) X.env) Q E s:=by
 obtain⟨mb,h1,h2⟩:=I.mod.blt;exact Calls.Name_function_global I.ok.kind hg (Calls.loadGlobal_builtin (by rw[I.ok.glob];exact I.mod.glob.keeps I.bk) hm (by rw[I.ok.blt];exact h1.keeps I.bk) ((h2 x hn).trans hv) h) hd
theorem xI {x:Str} {v:V} {u:Value} {pos:Pos} (hg:Gl X x) (hm:X.mg x=some u) (r:RelV v u) (hd:(x == ("__debug__" : Str))=false:=by decide):PE X (.Name x pos) (tC v) :=
 λ_ _ _ H _ I h=>R1 I hg hm ⟨v,H,I,r,h⟩ hd
theorem fR' {x:Str} {v:V} {u:Value} {pos:Pos} (hg:Gl X x) (hm:X.mg x=none) (hv:bootBuiltins x=some u) (r:RelV v u) (hn:x ≠ "__name__" := by decide) (hd:(x == ("__debug__" : Str))=false:=by decide):PE X (.Name x pos) (tC v) :=
 λ_ _ _ H _ I h=>CB I hg hm hv ⟨v,H,I,r,h⟩ hn hd
variable {a b:Expr}{ta tb:TE}{pos:Pos}
def tB(t:TE):TT:=λσ H Q=>t σ H λx H1=>∃ c,x=.bl c/\Q c H1
theorem fS'{e:Expr}{t:TE}(h:PE X e t)(he:∀ whole,isTrue e X.env whole=(do let v <- whole;standAt e.pos;holding [v] (truthy v)):=by intro _;rfl):PT X e (tB t):=by intro pins s σ H Q I hw;refine isTrue_plain (bX (h pins s σ H _ I hw) λv s1 b6=>L2.fe b6 λx H1 I1 r1 q1=>?_) (he _);obtain⟨d,rfl,q⟩:=q1;cases r1;exact wpAny_truthy_bool ⟨H1,I1,q⟩
variable {tA tB':TT}{rest:List Expr}
def tOr(t u:TT):TT:=λσ H Q=>t σ H λc H1=>if c=true then Q true H1 else u σ H1 Q
def fU'(t:TT):TT:=λσ H Q=>t σ H λc H1=>Q (!c) H1
theorem pw_or1(ha:PT X a tA):PW X (.BoolOp .Or [a] pos) tA:=by
 intro wh pins s σ H Q I h;refine isTrue_or (bX (ha pins s σ H Q I h) λc s1 e=>?_)
 cases c with
 |false=>exact isTrue_or_nil e
 |true=>exact e
theorem pw_or(ha:PT X a tA)(hb:PW X (.BoolOp .Or (b :: rest) pos) tB'):PW X (.BoolOp .Or (a :: b :: rest) pos) (tOr tA tB'):=by
 intro wh pins s σ H Q I h;refine isTrue_or (bX (ha pins s σ H _ I h) λc s1 ck=>?_);obtain⟨H1,I1,q1⟩:=ck
 cases c with
 |true=>exact⟨H1,I1,q1⟩
 |false=>exact hb wh pins s1 σ H1 Q I1 q1
theorem fV'(ha:PT X a tA):PT X (.UnaryOp .Not a pos) (fU' tA):=by intro pins s σ H Q I h;exact isTrue_not (ha pins s σ H (λc H1=>Q (!c) H1) I h)
def fW'(ta tb:TE):TE:=λσ H Q=>ta σ H λx H1=>∃ c,x=.bl c/\if c=true then tb σ H1 Q else Q (.bl false) H1
def fX'(ta tb:TE):TE:=λσ H Q=>ta σ H λx H1=>∃ c,x=.bl c/\if c=true then Q (.bl true) H1 else tb σ H1 Q
def fY'(ta:TE):TE:=λσ H Q=>ta σ H λx H1=>∃ c,x=.bl c/\Q (.bl (!c)) H1
theorem fZ'{op}{t:TE}(h:PE X a t):PE X (.BoolOp op [a] pos) t:=λpins s σ H Q I hw=>BoolOp_one (h pins s σ H Q I hw)
theorem ga'(ha:PE X a ta)(hb:PE X (.BoolOp .And (b :: rest) pos) tb):PE X (.BoolOp .And (a :: b :: rest) pos) (fW' ta tb):=by
 walk_at"x";refine BoolOp_and (bX (ha pins s σ H _ I h) λv s1 b6=>L2.fe b6 λx H1 I1 r1 q1=>?_);obtain⟨c,rfl,q1⟩:=q1;cases r1;refine wpAny_truthy_bool ?_
 cases c with
 |true=>exact hb pins s1 σ H1 Q I1 q1
 |false=>exact⟨.bl false,H1,I1,rfl,q1⟩
theorem gb'(ha:PE X a ta)(hb:PE X (.BoolOp .Or (b :: rest) pos) tb):PE X (.BoolOp .Or (a :: b :: rest) pos) (fX' ta tb):=by
 walk_at"x";refine BoolOp_or (bX (ha pins s σ H _ I h) λv s1 b6=>L2.fe b6 λx H1 I1 r1 q1=>?_);obtain⟨c,rfl,q1⟩:=q1;cases r1;refine wpAny_truthy_bool ?_
 cases c with
 |false=>exact hb pins s1 σ H1 Q I1 q1
 |true=>exact⟨.bl true,H1,I1,rfl,q1⟩
theorem gc'(ha:PE X a ta):PE X (.UnaryOp .Not a pos) (fY' ta):=by intro pins s σ H Q I h;refine UnaryOp_ (bX (ha pins s σ H _ I h) λv s1 b6=>L2.fe b6 λx H1 I1 r1 q1=>?_);obtain⟨c,rfl,q1⟩:=q1;cases r1;exact not_of (wpAny_truthy_bool ⟨.bl (!c),H1,I1,rfl,q1⟩)
end
def eJ(K:PySem.W.Frag)(H:Hp)(a:Addr)(xs:List V):Prop :=
 Rd H a (.lst xs) \/
  ∃ (o:Obj) (its:Array Value) (n:Nat),K.lookup a=some o/\o.cls=.type "list"/\o.dict=none/\o.data=.seq its n/\its.size<=sizeLine/\Vals xs its.toList
def ke(K:PySem.W.Frag)(H:Hp)(a:Addr)(xs:List V):Prop :=
 Rd H a (.tup xs) \/
  ∃ (o:Obj) (its:Array Value) (n:Nat),K.lookup a=some o/\o.cls=.type "tuple"/\o.data=.seq its n/\its.size<=sizeLine/\Vals xs its.toList
def gd':Value->Option V
 |.none=>some .non
 |.bool b=>some (.bl b)
 |.int i _=>some (.int i)
 |.str x _=>some (.str x)
 |.bytes b _=>some (.rL b)
 |.float b _=>some (.AJ b)
 |.ref a=>some (.ref a)
 |.type n=>some (.ty n)
 |_=>none
theorem RelV.abs{x:V}{u:Value}(r:RelV x u):gd' u=some x:=by
 cases x with
 |non=>cases r;rfl
 |bl _=>cases r;rfl
 |int _=>obtain⟨t,rfl⟩:=r;rfl
 |str _=>obtain⟨t,rfl⟩:=r;rfl
 |rL _=>obtain⟨t,rfl⟩:=r;rfl
 |AJ _=>obtain⟨t,rfl⟩:=r;rfl
 |ref _=>cases r;rfl
 |ty _=>cases r;rfl
theorem RelV.inj{x y:V}{u:Value}(r:RelV x u)(q:RelV y u):x=y:=Option.some.inj (r.abs.symm.trans q.abs)
theorem Vals.inj:∀ {xs ys:List V} {us:List Value},Vals xs us->Vals ys us->xs=ys
 |_,_,_,.nil,.nil=>rfl
 |_,_,_,.cons r t,.cons r' t'=>by rw[r.inj r',Vals.inj t t']
section
variable {X:Cx}{pins:List (Addr × Obj)}{σ:St}{H:Hp}{s:Shared}{a:Addr}{xs ys:List V}
theorem Inv.list(I:Inv X pins σ H s)(h:eJ X.K H a xs):∃ its:List Value,Vals xs its/\PlainL s.heap a its.toArray/\xs.length<=sizeLine:=by
 rcases h with h|⟨o,its,n,hk,hc,hd,hs,hz,r⟩
 ·obtain⟨z,its,n,r,e⟩:=h.ok I.aS;exact⟨its,r,⟨_,n,e,rfl,rfl,rfl⟩,z⟩
 ·refine⟨its.toList,r,⟨o,n,I.kc a o hk,hc,hd,by simpa using hs⟩,?_⟩;have e:=r.length;simp only[xC] at e;lia
theorem Inv.tuple(I:Inv X pins σ H s)(h:ke X.K H a xs):∃ its:List Value,Vals xs its/\IsTup s.heap a its.toArray/\xs.length<=sizeLine:=by
 rcases h with h|⟨o,its,n,hk,hc,hs,hz,r⟩
 ·obtain⟨z,its,r,p⟩:=h.ok I.aS;exact⟨its,r,p,z⟩
 ·refine⟨its.toList,r,⟨o,I.kc a o hk,hc,n,by simpa using hs⟩,?_⟩;have e:=r.length;simp only[xC] at e;lia
theorem Inv.bn'(I:Inv X pins σ H s)(h:eJ X.K H a xs)(h':eJ X.K H a ys):xs=ys:=by
 obtain⟨its,r,⟨o,n,e,_,_,d⟩,_⟩:=I.list h;obtain⟨its',r',⟨o',n',e',_,_,d'⟩,_⟩:=I.list h';rw[e] at e';cases e';rw[d] at d';injection d' with d1 _;have:its=its':=by simpa using congrArg Array.toList d1
 subst this;exact r.inj r'
theorem Inv.ge'(I:Inv X pins σ H s)(h:ke X.K H a xs)(h':ke X.K H a ys):xs=ys:=by
 obtain⟨its,r,⟨o,e,_,n,d⟩,_⟩:=I.tuple h;obtain⟨its',r',⟨o',e',_,n',d'⟩,_⟩:=I.tuple h';rw[e] at e';cases e';rw[d] at d';injection d' with d1 _;have:its=its':=by simpa using congrArg Array.toList d1
 subst this;exact r.inj r'
end
abbrev Cx.wish(X:Cx)(E:Value->Shared->Prop):Cx:={ X with xe:=E }
abbrev Cx.L4(X:Cx):Cx:=X.wish λ_ _=>False
theorem Cx.Ok.wish{X:Cx}(ok:X.Ok)(E:Value->Shared->Prop):(X.wish E).Ok :=
 ⟨ok.mod,ok.kind,ok.glob,ok.blt,ok.above,ok.inj,ok.has,ok.y9,ok.hd,ok.frames,ok.AO,ok.tj,ok.bs,ok.tq,ok.zh,ok.wo,ok.qh,ok.xE⟩
theorem Cx.Ok.CC{X:Cx}{E:Value->Shared->Prop}(ok:(X.wish E).Ok):X.Ok :=
 ⟨ok.mod,ok.kind,ok.glob,ok.blt,ok.above,ok.inj,ok.has,ok.y9,ok.hd,ok.frames,ok.AO,ok.tj,ok.bs,ok.tq,ok.zh,ok.wo,ok.qh,ok.xE⟩
section
variable {X:Cx}{pins:List (Addr × Obj)}{σ:St}{H:Hp}{s:Shared}{E:Value->Shared->Prop}
theorem Inv.wish(I:Inv X pins σ H s)(E:Value->Shared->Prop):Inv (X.wish E) pins σ H s:=⟨I.ok.wish E,I.os,I.bare,I.base,I.loc,I.cell,I.free,I.nE,I.pin,I.aS,I.len⟩
theorem Inv.CC(I:Inv (X.wish E) pins σ H s):Inv X pins σ H s:=⟨I.ok.CC,I.os,I.bare,I.base,I.loc,I.cell,I.free,I.nE,I.pin,I.aS,I.len⟩
theorem SP.CC{D:Ends}{f:Flow}{s':Shared}(h:SP (X.wish E) pins D f s'):SP X pins D f s':=by
 cases f with
 |next=>obtain⟨bq,H',I,q⟩:=h;exact⟨bq,H',I.CC,q⟩
 |brk=>obtain⟨bq,H',I,q⟩:=h;exact⟨bq,H',I.CC,q⟩
 |cont=>obtain⟨bq,H',I,q⟩:=h;exact⟨bq,H',I.CC,q⟩
 |ret u=>obtain⟨v,bq,H',I,r,q⟩:=h;exact⟨v,bq,H',I.CC,r,q⟩
theorem oo.L4{st:List Stmt}{t:TS}(h:oo X.L4 st t):oo X st t:=λpins s σ H D I hw =>
 rj (h pins s σ H D (I.wish _) hw) (λ_ _ q=>q.CC) λ_ _ z=>False.elim z
end
section
variable {X:Cx}{st:Stmt}{rest:List Stmt}{t u:TS}{e:Expr}{te:TE}{pos:Pos}
def gf':TS:=λD σ H=>D.nx σ H
def bo'(t u:TS):TS:=λD σ H=>t { D with nx:=u D } σ H
theorem bp':oo X [] gf':=λ_ _ σ H _ I h=>wpAny_execs_nil ⟨σ,H,I,h⟩
theorem gg'(h1:PS X st t)(h2:oo X rest u):oo X (st :: rest) (bo' t u):=by
 walk_at"ac";refine wpAny_execs_cons (bX (h1 pins s σ H { D with nx:=u D } I h) λf s1 q=>?_)
 cases f with
 |next =>obtain⟨bq,H',I',q⟩:=q;exact h2 pins s1 bq H' D I' q
 |ret v=>exact q
 |brk=>exact q
 |cont=>exact q
theorem gh'(h1:PS X st t):oo X [st] t:=by
 walk_at"ac";refine wpAny_execs_cons (bX (h1 pins s σ H D I h) λf s1 q=>?_)
 cases f with
 |next=>exact wpAny_execs_nil q
 |ret v=>exact q
 |brk=>exact q
 |cont=>exact q
theorem Inv.quiet{pins:List (Addr × Obj)}{σ:St}{H:Hp}{s:Shared}(I:Inv X pins σ H s):interactive X.env=false:=by simp[interactive,I.ok.kind]
def gi'(te:TE):TS:=λD σ H=>te σ H λ_ H1=>D.nx σ H1
theorem bq'(he:PE X e te)(hs:swapsWith e none pos.line X.env=pure false:=by rfl):PS X (.Expr e pos) (gi' te):=by intro pins s σ H D I h;exact wpAny_Expr_any (bX (he pins s σ H _ I h) λv s1 b6=>L2.fe b6 λx H1 I1 r1 q1=>⟨σ,H1,I1,q1⟩) I.quiet hs
def gj'(te:TE):TS:=λD σ H=>te σ H D.rt
theorem GV(he:PE X e te):PS X (.Return (some e) pos) (gj' te):=by intro pins s σ H D I h;exact wpAny_Return_some (bX (he pins s σ H _ I h) λv s1 b6=>L2.fe b6 λx H1 I1 r1 q1=>⟨x,σ,H1,I1,r1,q1⟩)
def gk'(c:TT)(t u:TS):TS:=λD σ H=>c σ H λb H1=>if b=true then t D σ H1 else u D σ H1
theorem gl'{c:Expr}{a b:List Stmt}{tc:TT}(hc:PT X c tc)(ha:oo X a t)(hb:oo X b u):PS X (.If c a b pos) (gk' tc t u):=by
 walk_at"ac";refine wpAny_If (bX (hc pins s σ H _ I h) λd s1 ck=>?_);obtain⟨H1,I1,q1⟩:=ck
 cases d with
 |true=>exact ha pins s1 σ H1 D I1 q1
 |false=>exact hb pins s1 σ H1 D I1 q1
end
abbrev TG:=V->St->Hp->(St->Hp->Prop)->Prop
abbrev EG:=List V->St->Hp->(St->Hp->Prop)->Prop
def PG(X:Cx)(target:Expr)(t:TG):Prop :=
 ∀ (pins:List (Addr × Obj)) (s:Shared) (σ:St) (H:Hp) (v:V) (u:Value) (Q:St->Hp->Prop),Inv X pins σ H s->RelV v u->t v σ H Q ->
  wpAny (model X.prog X.w) X.A (assign target X.env u) (λ_ s'=>∃ bq H',Inv X pins bq H' s'/\Q bq H') X.xe s
def R3(X:Cx)(ts:List Expr)(t:EG):Prop :=
 ∀ (pins:List (Addr × Obj)) (s:Shared) (σ:St) (H:Hp) (vs:List V) (us:List Value) (Q:St->Hp->Prop),Inv X pins σ H s->Vals vs us->t vs σ H Q ->
  wpAny (model X.prog X.w) X.A (assignInOrder ((assignEach ts X.env).map (·.2)) us) (λ_ s'=>∃ bq H',Inv X pins bq H' s'/\Q bq H') X.xe s
section
variable {X:Cx}{pos:Pos}
def bs'(i:Nat):TG:=λv σ H Q=>Q (σ.set i (some v)) H
theorem Uw{i:Nat}{x:Str}(hN:X.N.Nodup)(hi:X.N[i]? = some x)(hx:Loc X.env.scope x)(hf:X.fn x=true\/X.env.scope.names.lookup x=some .local:=by first|exact .inl rfl|exact .inr rfl|assumption):PG X (.Name x pos) (bs' i):=by intro pins s σ H v u Q I r h;exact wpAny_assign_Name (bj' I hN hi hx r (λs' I'=>⟨_,H,I',h⟩) hf)
def gm':EG:=λvs σ H Q=>vs=[]/\Q σ H
def gn'(t:TG)(u:EG):EG:=λvs σ H Q=>∃ v r,vs=v :: r/\t v σ H λbq H'=>u r bq H' Q
theorem gp':R3 X [] gm':=by intro pins s σ H vs us Q I r h;obtain⟨e,h⟩:=h;subst e;cases r;exact assignInOrder_nil ⟨σ,H,I,h⟩
theorem bt'{e:Expr}{es:List Expr}{t:TG}{u:EG}(h1:PG X e t)(h2:R3 X es u)(hs:(assignEach (e :: es) X.env).map (·.2)=assign e X.env :: (assignEach es X.env).map (·.2):=by rfl):R3 X (e :: es) (gn' t u):=by
 intro pins s σ H vs us Q I r h;obtain⟨v,vr,e1,h⟩:=h;subst e1
 cases r with
 |cons r rr =>rw[hs];refine assignInOrder_cons (bX (h1 pins s σ H _ _ _ I r h) λ_ s1 ck=>?_);obtain⟨σ1,H1,I1,q1⟩:=ck;exact h2 pins s1 σ1 H1 _ _ Q I1 rr q1
def gr'(K:PySem.W.Frag)(n:Nat)(t:EG):TG:=λv σ H Q=>∃ a xs,v=.ref a/\ke K H a xs/\xs.length=n/\t xs σ H Q
theorem gs'{es:List Expr}{k:Nat}{t:EG}{n:Nat}(hc:X.calm=true)(h:R3 X es t)(hn:(assignEach es X.env).length=n:=by rfl) (hV:(assignEach es X.env).findIdx? (·.1)=none:=by rfl):PG X (.Tuple es k pos) (gr' X.K n t):=by
 intro pins s σ H v u Q I r hw;obtain⟨a,xs,e1,hq,hl,hw⟩:=hw;subst e1;cases r;obtain⟨its,rv,ht,hz⟩:=I.tuple hq;refine assign_Tuple_tuple (I.ok.hd hc) ht (by simp[hn,<- hl,rv.length]) hV λh' hx=>?_;have I1:Inv X pins σ H { s with heap:=h' }:=I.kept (t':=s.toks) λb o e=>hx b o (eL (da e)) e;exact h pins _ σ H xs _ Q I1 (by simpa using rv) hw
def bu'(te:TE)(g:TG):TS:=λD σ H=>te σ H λx H1=>g x σ H1 D.nx
theorem gt'{tg e:Expr}{te:TE}{g:TG}(he:PE X e te)(hg:PG X tg g)(hs:swapsWithSole [tg] e pos.line X.env=pure false:=by rfl)(hw:swappedStores [tg] e X.env=pure none:=by rfl) (h1:(assignEach [tg] X.env).map (·.2)=[assign tg X.env]:=by rfl):PS X (.Assign [tg] e pos) (bu' te g):=by
 walk_at"ac";refine wpAny_Assign_stores (bX (he pins s σ H _ I h) λv s1 b6=>L2.fe b6 λx H1 I1 r1 q1=>?_) hs hw;rw[h1];exact bX (hg pins s1 σ H1 x v _ I1 r1 q1) λ_ s2 q=>q
theorem Ux{i:Nat}{x:Str}{e:Expr}{te:TE}{pos':Pos}(hN:X.N.Nodup)(hi:X.N[i]? = some x)(hx:Loc X.env.scope x)(he:PE X e te)(hs:swapsWith e (some (.Name x pos')) pos.line X.env=pure false:=by rfl)(hf:X.fn x=true\/X.env.scope.names.lookup x=some .local:=by first|exact .inl rfl|exact .inr rfl|assumption) :
  PS X (.Assign [.Name x pos'] e pos) (bu' te (bs' i)):=by
 walk_at"ac";refine wpAny_Assign_Name (bX (he pins s σ H _ I h) λv s1 b6=>L2.fe b6 λy H1 I1 r1 q1=>?_) hs;exact bj' I1 hN hi hx r1 (λs2 I2=>⟨_,H1,I2,q1⟩) hf
end
structure It where
 go:Nat->Hp->Prop
 kM:Nat->Hp->V->Hp->Prop
 stop:Nat->Hp->Prop
def kN(X:Cx)(pins:List (Addr × Obj))(H:Hp)(b:Addr):Prop :=
 H b=none/\b≠X.env.locals/\b∉X.fs/\(b∈X.ex\/X.df.heap.objs.size<=b)/\(∀ x c,X.env.cells.lookup x=some c->c≠b)/\∀ p∈X.pn++pins,p.1≠b
theorem Inv.AR{X:Cx}{pins:List (Addr × Obj)}{σ:St}{H H':Hp}{s:Shared}{b:Addr}(I:Inv X pins σ H s)(hb:s.heap.objs.size<=b)(hn:H' b=none):kN X pins H' b:=by
 refine⟨hn,Rw (lP I.lt hb),I.fK' hb,.inr (fP I.sz hb),λx c e z=>?_,λp hp z=>?_⟩
 ·obtain⟨v,q⟩:=I.cell x c e;exact absurd (lP q.lt (by rw[z];exact hb)) (oi _)
 ·exact absurd (lP (da (I.pin p hp).1) (by rw[z];exact hb)) (oi _)
structure Turn(P:Program)(w:World)(K:PySem.W.Frag)(tg:Expr)(J:It)(fp:List Addr)(it:Addr)(tn:Nat->Heap->Prop):Prop where
 mem:it∈fp
 obj:∀ i h,tn i h->∀ b∈fp,∃ o,h.get? b=some o/\∀ v,o.data≠.cell v
 keep:∀ i h h',tn i h->(∀ b∈fp,∀ o,h.get? b=some o->h'.get? b=some o)->tn i h'
 item:∀ (X:Cx),X.prog=P->X.w=w->X.K=K->X.calm=true->∀ (i:Nat) (pins:List (Addr × Obj)) (s:Shared) (σ:St) (H:Hp) (E:Value->Shared->Prop),Inv X pins σ H s->(∀ b∈fp,kN X pins H b)->tn i s.heap->J.go i H ->
  wpAny (model P w) X.A (pyNext (.ref it)) (fun r s1=>∃ u,r=some u /\
   wpAny (model P w) X.A (letOwnedTupleGo tg (.ref it) u) (fun _ s2=>∃ x H',Inv X pins σ H' s2/\RelV x u/\J.kM i H x H'/\tn (i+1) s2.heap/\∀ b∈fp,H' b=none) E s1) E s
 done:∀ (X:Cx),X.prog=P->X.w=w->X.K=K->X.calm=true->∀ (i:Nat) (pins:List (Addr × Obj)) (s:Shared) (σ:St) (H:Hp) (E:Value->Shared->Prop),Inv X pins σ H s->(∀ b∈fp,kN X pins H b)->tn i s.heap->J.stop i H ->
  wpAny (model P w) X.A (pyNext (.ref it)) (fun r s1=>r=none/\Inv X pins σ H s1) E s
 self:∀ (A:Around) (i:Nat) (s:Shared) (Q:Value->Shared->Prop) (E:Value->Shared->Prop),tn i s.heap->Q (.ref it) s->wpAny (model P w) A (pyIter (.ref it)) Q E s
abbrev TI:=St->Hp->(It->Hp->Prop)->Prop
def PIE(X:Cx)(pins:List (Addr × Obj))(σ:St)(tg:Expr)(R:It->Hp->Prop)(EH:Value)(s2:Shared):Prop :=
 ∃ (it:Addr) (fp:List Addr) (tn:Nat->Heap->Prop) (J:It) (H':Hp),EH=.ref it/\Inv X pins σ H' s2/\Turn X.prog X.w X.K tg J fp it tn/\tn 0 s2.heap/\(∀ b∈fp,kN X pins H' b)/\R J H'
def PI(X:Cx)(tg iter:Expr)(wi:TI):Prop :=
 ∀ (pins:List (Addr × Obj)) (s:Shared) (σ:St) (H:Hp) (R:It->Hp->Prop),Inv X pins σ H s->wi σ H R ->
  wpAny (model X.prog X.w) X.A (eval iter X.env) (λv s1=>wpAny (model X.prog X.w) X.A (pyIter v) (PIE X pins σ tg R) X.xe s1) X.xe s
theorem L5{M:Model}{A:Around}{E:Value->Shared->Prop}{s:Shared}{tg:Expr}{it:Addr}{u:Value}{o:Obj}{n:String}{vs:Array Value}{Q:Unit->Shared->Prop}(ho:s.heap.get? it=some o)(hc:o.cls=.type n)(hd:o.data=.fields vs)(hn:["enumerate", "zip", "dict_itemiterator", "dict_reverseitemiterator", "odict_iterator", "itertools.zip_longest", "itertools.pairwise"].contains n=false) (hQ:Q () s):wpAny M A (letOwnedTupleGo tg (.ref it) u) Q E s:=by
 unfold letOwnedTupleGo;cases tg<;>first
  |exact aE hQ
  | (cases u<;>first
     |exact aE hQ
     | (refine ai (wpAny_load ho ?_)
        rw[hc,hd];show wpAny M A (if (["enumerate", "zip", "dict_itemiterator", "dict_reverseitemiterator", "odict_iterator", "itertools.zip_longest", "itertools.pairwise"].contains n && vs[0]? == some (rawInt _))=true then _ else _) Q E s;rw[if_neg (by intro h;rw[hn,GH] at h;cases h)];exact aE hQ))
def CD(K:PySem.W.Frag)(a:Addr):It :=
 ⟨λi H=>∃ xs x,eJ K H a xs/\xs[i]? = some x,λi H x H'=>H'=H/\∀ xs,eJ K H a xs->xs[i]? = some x,λi H=>∃ xs,eJ K H a xs/\xs.length<=i⟩
def Uy(K:PySem.W.Frag)(a:Addr):It :=
 ⟨λi H=>∃ xs x,ke K H a xs/\xs[i]? = some x,λi H x H'=>H'=H/\∀ xs,ke K H a xs->xs[i]? = some x,λi H=>∃ xs,ke K H a xs/\xs.length<=i⟩
def GW(lo:Int)(n:Nat):It:=⟨λi _=>i<n,λi H x H'=>H'=H/\x=.int (lo+i),λi _=>n<=i⟩
theorem bw'{P:Program}{w:World}{K:PySem.W.Frag}{tg:Expr}(a it:Addr):Turn P w K tg (CD K a) [it] it (λi h=>h.IsListIter it a i) where
 mem:=by simp
 obj:=λi h st b hb=>by
  have e:b=it:=by simpa using hb
  subst e;obtain⟨o,e,c,d⟩:=st;walk_at"aA"
 keep:=λi h h' st k=>st.at λo e=>k it (by simp) o e
 item:=by intro X hP hw hK hc i pins s σ H E I hf st hg;subst hP hw hK;obtain⟨xs,x,hq,hx⟩:=hg;obtain⟨its,rv,p,hz⟩:=I.list hq;obtain⟨u,hu,ru⟩:=rv.get hx;obtain⟨f0,f1,f2,f3,f4,f5⟩:=hf it (by simp);refine wpAny_pyNext_list_item st p.isList (x:=u) (by simpa using hu) λh' ah sb=>?_;have I1:Inv X pins σ H { s with heap:=h' }:=I.turned (t':=s.toks) (λb o hb e=>(sb.2 b hb).trans e) f0 f1 f3 f4 f5;obtain⟨o,e,c,d⟩:=id ah;exact⟨u,rfl,L5 (s:={ s with heap:=h' }) e c d (by decide) ⟨x,H,I1,ru,⟨rfl,λys hy=>by rw[I.bn' hy hq];exact hx⟩,ah,λb hb=>(hf b hb).1⟩⟩
 done:=by intro X hP hw hK hc i pins s σ H E I hf st hg;subst hP hw hK;obtain⟨xs,hq,hx⟩:=hg;obtain⟨its,rv,p,hz⟩:=I.list hq;obtain⟨f0,f1,f2,f3,f4,f5⟩:=hf it (by simp);have hl:=rv.length;exact wpAny_pyNext_list_end (I.ok.hd hc) st p.isList (by simp;lia) λh' eb=>⟨rfl,I.turned (t':=s.toks) (λb o hb e=>eb b o hb e) f0 f1 f3 f4 f5⟩
 self:=λ_ _ _ _ _ st h=>wpAny_pyIter_listiter st h
theorem gu'{P:Program}{w:World}{K:PySem.W.Frag}{tg:Expr}(a it:Addr):Turn P w K tg (Uy K a) [it] it (λi h=>h.IsTupleIter it a i) where
 mem:=by simp
 obj:=λi h st b hb=>by
  have e:b=it:=by simpa using hb
  subst e;obtain⟨o,e,c,d⟩:=st;walk_at"aA"
 keep:=λi h h' st k=>st.at λo e=>k it (by simp) o e
 item:=by intro X hP hw hK hc i pins s σ H E I hf st hg;subst hP hw hK;obtain⟨xs,x,hq,hx⟩:=hg;obtain⟨its,rv,p,hz⟩:=I.tuple hq;obtain⟨u,hu,ru⟩:=rv.get hx;obtain⟨f0,f1,f2,f3,f4,f5⟩:=hf it (by simp);refine wpAny_pyNext_tuple_item st (show s.heap.IsTuple a its.toArray from p) (x:=u) (by simpa using hu) λh' ah sb=>?_;have I1:Inv X pins σ H { s with heap:=h' }:=I.turned (t':=s.toks) (λb o hb e=>(sb.2 b hb).trans e) f0 f1 f3 f4 f5;obtain⟨o,e,c,d⟩:=id ah;exact⟨u,rfl,L5 (s:={ s with heap:=h' }) e c d (by decide) ⟨x,H,I1,ru,⟨rfl,λys hy=>by rw[I.ge' hy hq];exact hx⟩,ah,λb hb=>(hf b hb).1⟩⟩
 done:=by intro X hP hw hK hc i pins s σ H E I hf st hg;subst hP hw hK;obtain⟨xs,hq,hx⟩:=hg;obtain⟨its,rv,p,hz⟩:=I.tuple hq;obtain⟨f0,f1,f2,f3,f4,f5⟩:=hf it (by simp);have hl:=rv.length;exact wpAny_pyNext_tuple_end (I.ok.hd hc) st (show s.heap.IsTuple a its.toArray from p) (by simp;lia) λh' eb=>⟨rfl,I.turned (t':=s.toks) (λb o hb e=>eb b o hb e) f0 f1 f3 f4 f5⟩
 self:=λ_ _ _ _ _ st h=>wpAny_pyIter_tupleiter st h
theorem gv'{P:Program}{w:World}{K:PySem.W.Frag}{tg:Expr}(it:Addr)(lo:Int)(n:Nat):Turn P w K tg (GW lo n) [it] it (λi h=>IsRangeIter h it (lo+(i:Nat)*1) ((n:Int)-(i:Nat)) 1) where
 mem:=by simp
 obj:=λi h st b hb=>by
  have e:b=it:=by simpa using hb
  subst e;exact⟨_,st,λv z=>by
   have z':Data.fields _=Data.cell v:=z;cases z'⟩
 keep:=λi h h' st k=>k it (by simp) _ st
 item:=by intro X hP hw hK hc i pins s σ H E I hf st hg;subst hP hw hK;obtain⟨f0,f1,f2,f3,f4,f5⟩:=hf it (by simp);have W:=Walks.range (prog:=X.prog) (w:=X.w) (I.ok.hd hc) it lo 1 n;refine W.item i s _ _ hg st λv h' tk hv ah kk=>?_;obtain⟨t,rfl⟩:=hv;have I1:Inv X pins σ H { s with heap:=h',toks:=tk }:=I.turned (λb o hb e=>kk b o (by simpa using hb) e) f0 f1 f3 f4 f5;refine⟨_,rfl,L5 (s:={ s with heap:=h',toks:=tk }) (n := "range_iterator") ah rfl rfl (by decide) ⟨.int (lo+i),H,I1,⟨t,?_⟩,⟨rfl,rfl⟩,ah,λb hb=>(hf b hb).1⟩⟩;rw[Int.mul_one]
 done:=by intro X hP hw hK hc i pins s σ H E I hf st hg;subst hP hw hK;obtain⟨f0,f1,f2,f3,f4,f5⟩:=hf it (by simp);exact wpAny_pyNext_range_end (I.ok.hd hc) st (by have:n<=i:=hg;lia) λh' eb=>⟨rfl,I.turned (t':=s.toks) (λb o hb e=>eb b o hb e) f0 f1 f3 f4 f5⟩
 self:=λ_ _ _ _ _ st h=>wpAny_pyIter_rangeiter st h
section
variable {X:Cx}{tg:Expr}
def L6(K:PySem.W.Frag)(tl:TE):TI:=λσ H R=>tl σ H λx H1=>∃ a,x=.ref a/\(∃ xs,eJ K H1 a xs)/\R (CD K a) H1
def gw'(K:PySem.W.Frag)(tl:TE):TI:=λσ H R=>tl σ H λx H1=>∃ a,x=.ref a/\(∃ xs,ke K H1 a xs)/\R (Uy K a) H1
theorem bx'{l:Expr}{tl:TE}(hl:PE X l tl):PI X tg l (L6 X.K tl):=by
 intro pins s σ H R I h;refine bX (hl pins s σ H _ I h) λv s1 b6=>L2.fe b6 λx H1 I1 r1 q1=>?_;obtain⟨a,e,⟨xs,hq⟩,q⟩:=q1;subst e;cases r1;obtain⟨its,rv,p,hz⟩:=I1.list hq;refine wpAny_pyIter_list p.isList ?_;refine⟨s1.heap.objs.size,[s1.heap.objs.size],_,_,H1,rfl,I1.kept (t':=s1.toks) λb o e=>dA _ e,bw' a _,⟨_,gV _ rfl,rfl,rfl⟩,λb hb=>?_,q⟩;have e:b=s1.heap.objs.size:=by simpa using hb
 subst e;walk_at"ae"
theorem gx'{l:Expr}{tl:TE}(hl:PE X l tl):PI X tg l (gw' X.K tl):=by
 intro pins s σ H R I h;refine bX (hl pins s σ H _ I h) λv s1 b6=>L2.fe b6 λx H1 I1 r1 q1=>?_;obtain⟨a,e,⟨xs,hq⟩,q⟩:=q1;subst e;cases r1;obtain⟨its,rv,p,hz⟩:=I1.tuple hq;refine wpAny_pyIter_tuple (show s1.heap.IsTuple a its.toArray from p) ?_;refine⟨s1.heap.objs.size,[s1.heap.objs.size],_,_,H1,rfl,I1.kept (t':=s1.toks) λb o e=>dA _ e,gu' a _,⟨_,gV _ rfl,rfl,rfl⟩,λb hb=>?_,q⟩;have e:b=s1.heap.objs.size:=by simpa using hb
 subst e;walk_at"ae"
theorem gy'{pins:List (Addr × Obj)}{σ:St}{H:Hp}{s:Shared}{R:It->Hp->Prop}{E:Value->Shared->Prop}{lo hi:Int}{t u v:Tok}{tk:Nat}(I:Inv X pins σ H s)(h1:-(2 ^ 62)<=lo)(h2:lo<2 ^ 62)(h3:-(2 ^ 62)<=hi)(h4:hi<2 ^ 62)(q:R (GW lo (hi-lo).toNat) H):wpAny (model X.prog X.w) X.A (pyIter (.ref s.heap.objs.size)) (PIE X pins σ tg R) E { s with heap:=s.heap.push { cls:=.type "range",data:=.fields #[.int lo t,.int hi u,.int 1 v] },toks:=tk }:=by
 refine wpAny_pyIter_range (IsRange.new ..) (small_one h1 h2 h3 h4) ?_;have I1:Inv X pins σ H { s with heap:=s.heap.push { cls:=.type "range",data:=.fields #[.int lo t,.int hi u,.int 1 v] },toks:=tk }:=I.kept λb o e=>dA _ e;refine⟨(s.heap.push { cls:=.type "range",data:=.fields #[.int lo t,.int hi u,.int 1 v] }).objs.size,[(s.heap.push { cls:=.type "range",data:=.fields #[.int lo t,.int hi u,.int 1 v] }).objs.size],_,_,H,rfl,
  I1.kept (t':=tk) λb o e=>dA _ e,gv' _ lo (hi-lo).toNat,?_,λb hb=>?_,q⟩
 ·have e1:lo+((0:Nat):Int)*1=lo:=by simp
  have e2:(((hi-lo).toNat:Nat):Int)-((0:Nat):Int)=Builtin.Range.rangeSize lo hi 1:=by rw[rangeSize_one];split<;>lia
  show IsRangeIter _ _ (lo+((0:Nat):Int)*1) ((((hi-lo).toNat:Nat):Int)-((0:Nat):Int)) 1;rw[e1,e2];exact gV _ rfl
 ·have e:b=(s.heap.push { cls:=.type "range",data:=.fields #[.int lo t,.int hi u,.int 1 v] }).objs.size:=by simpa using hb
  subst e;walk_at"ae"
def gz'(ta:TA):TI:=λσ H R=>ta σ H λvs H1=>∃ j:Int,vs=[.int j]/\-(2 ^ 62)<=j/\j<2 ^ 62/\R (GW 0 j.toNat) H1
theorem gA' {a:Expr} {ta:TA} {p pos:Pos} (hg:Gl X "range") (hm:X.mg "range" = none) (ha:PA X [a] ta) (hs:starEach [a] X.env=[(false,eval a X.env)]:=by rfl):PI X tg (.Call (.Name "range" p) [a] [] pos) (gz' ta):=by
 intro pins s σ H R I h;refine Call_ (CB I hg hm boot_range (PyProof.Rows.callWith_type1 (bX (ha pos pins s σ H _ I h) λus s1 b6=>L2.fe b6 λvs H1 I1 r1 q1=>?_) hs rfl));obtain⟨j,e,q1,q2,q⟩:=q1;subst e
 cases r1 with
 |cons r rr =>cases rr;obtain⟨t,rfl⟩:=r;exact call_range_1 (gy' I1 (by decide) (by decide) q1 q2 (by simpa using q))
def by'(wi:TI)(g:TG)(tb:TS):TS:=λD σ H=>wi σ H λJ H1=>∃ W:Nat->Nat->St->Hp->Prop,(∃ m,W 0 m σ H1)/\∀ i m σ H,W i m σ H -> (J.stop i H/\D.nx σ H)\/(J.go i H/\∃ N:St->Hp->Prop,(∀ bq H',N bq H'->∃ m',m'<m/\W (i+1) m' bq H')/\∀ x H',J.kM i H x H'->g x σ H' λkB H2=>tb { D with nx:=N,ct:=N,bk:=D.nx } kB H2)
def EI(fp:List Addr)(h:Heap):List (Addr × Obj):=fp.filterMap λb=>(h.get? b).map λo=>(b,o)
theorem CF{fp:List Addr}{h:Heap}{b:Addr}{o:Obj}(hb:b∈fp)(e:h.get? b=some o):(b,o)∈EI fp h:=Ub.mpr ⟨b,hb,by rw[e];rfl⟩
theorem gB'{fp:List Addr}{h:Heap}{p:Addr × Obj}(hp:p∈EI fp h):p.1∈fp/\h.get? p.1=some p.2:=by
 obtain⟨b,hb,e⟩:=Ub.mp hp
 cases q:h.get? b with
 |none=>rw[q] at e;cases e
 |some o =>rw[q] at e;have e':(b,o)=p:=Option.some.inj e;subst e';exact⟨hb,q⟩
theorem Inv.pinned{pins:List (Addr × Obj)}{σ:St}{H:Hp}{s:Shared}{fp:List Addr}(I:Inv X pins σ H s)(hf:∀ b∈fp,kN X pins H b)(ho:∀ b∈fp,∃ o,s.heap.get? b=some o/\∀ v,o.data≠.cell v):Inv X (pins++EI fp s.heap) σ H s :=
 I.be' λp hp=>(eI.mp hp).elim (λz=>I.pin p (dQ _ z)) λz=>by obtain⟨hb,e⟩:=gB' z;obtain⟨f0,f1,f2,_⟩:=hf p.1 hb;obtain⟨o,e',d⟩:=ho p.1 hb;rw[e] at e';cases e';exact⟨e,f0,f1,f2,d⟩
theorem Inv.GY{pins pl:List (Addr × Obj)}{σ:St}{H:Hp}{s:Shared}(I:Inv X (pins++pl) σ H s):Inv X pins σ H s:=I.be' λp hp=>I.pin p (dQ _ (gE _ hp))
theorem gD'{iter:Expr}{body:List Stmt}{wi:TI}{g:TG}{tb:TS}{pos:Pos}(hp:PassesOwn (model X.prog X.w) X.A X.env X.xe)(hc:X.calm=true)(hi:PI X tg iter wi)(hg:PG X tg g)(hb:oo X body tb)(hs:∀ x,foldedSetIterable iter X.env x=pure x:=by intro _;rfl):PS X (.For tg iter body [] pos) (by' wi g tb):=by
 walk_at"ac";refine wpAny_For (bX (hi pins s σ H _ I h) λv s1 h1=>bX h1 λEH s2 h2=>?_) hs;obtain⟨it,fp,tn,J,H2,e,I2,T,mE,f2,W,⟨m0,w0⟩,turn⟩:=h2;subst e
 -- what stays true of the iterator's objects through the loop
 have stat:∀ {H':Hp},(∀ b∈fp,H' b=none)->∀ b∈fp,kN X pins H' b:=λhn b hb=>⟨hn b hb,(f2 b hb).2⟩
 refine codeAny_forLoop_any (λn s'=>∃ i bq H',Inv X pins bq H' s'/\tn i s'.heap/\(∀ b∈fp,H' b=none)/\W i n bq H') ?_ m0 ⟨0,σ,H2,I2,mE,λb hb=>(f2 b hb).1,w0⟩;rintro n s3 ⟨i,CH,H3,I3,kP,fr3,w3⟩;rcases turn i n CH H3 w3 with⟨stop,qn⟩|⟨go,N,hN,step⟩
 ·refine wpAny_passesOwn hp (bX (T.done X rfl rfl rfl hc i pins s3 CH H3 X.xe I3 (stat fr3) kP stop) λr s4 ck=>?_);obtain⟨hr,I4⟩:=ck;subst hr;exact wpAny_execs_nil ⟨CH,H3,I4,qn⟩
 ·refine wpAny_passesOwn hp (bX (T.item X rfl rfl rfl hc i pins s3 CH H3 X.xe I3 (stat fr3) kP go) λr s4 ck=>?_);obtain⟨u,hr,h4⟩:=ck;subst hr;refine wpAny_passesOwn hp (bX h4 λ_ s5 ck=>?_);obtain⟨x,H5,I5,r5,y5,tF,zk⟩:=ck;have I5':=I5.pinned (stat zk) (T.obj _ _ tF);refine wpAny_passesOwn hp (bX (hg _ s5 CH H5 x u _ I5' r5 (step x H5 y5)) λ_ s6 ck=>?_);obtain⟨σ6,H6,I6,q6⟩:=ck;refine wpAny_passesOwn hp (bX (hb _ s6 σ6 H6 _ I6 q6) λf s7 q7=>?_);have again:∀ {xS:St} {H7:Hp},Inv X (pins++EI fp s5.heap) xS H7 s7->N xS H7->∃ m,m<n/\∃ i bq H',Inv X pins bq H' s7/\tn i s7.heap/\(∀ b∈fp,H' b=none)/\W i m bq H':=λ{xS H7} I7 n7=>by obtain⟨m',hm,w7⟩:=hN xS H7 n7;refine⟨m',hm,i+1,xS,H7,I7.GY,T.keep _ _ _ tF λb hb o e=>(I7.pin (b,o) (dQ _ (dQ _ (CF hb e)))).1,λb hb=>?_,w7⟩;obtain⟨o,e,d⟩:=T.obj _ _ tF b hb;exact(I7.pin (b,o) (dQ _ (dQ _ (CF hb e)))).2.1
  cases f with
  |next=>obtain⟨xS,H7,I7,n7⟩:=q7;exact again I7 n7
  |cont=>obtain⟨xS,H7,I7,n7⟩:=q7;exact again I7 n7
  |brk=>obtain⟨xS,H7,I7,q7⟩:=q7;exact⟨xS,H7,I7.GY,q7⟩
  |ret v=>obtain⟨x7,xS,H7,I7,r7,q7⟩:=q7;exact⟨x7,xS,H7,I7.GY,r7,q7⟩
end
abbrev R2:=V->V->Hp->VK->Prop
def cx(X:Cx)(f:Value->Value->Sem Value)(r:R2):Prop :=
 ∀ (pins:List (Addr × Obj)) (s:Shared) (σ:St) (H:Hp) (x y:V) (v u:Value) (Q:VK),Inv X pins σ H s->RelV x v->RelV y u->r x y H Q ->
  wpAny (model X.prog X.w) X.A (f v u) (EP X pins σ Q) X.xe s
def i9(X:Cx)(f:Value)(r:List V->Hp->VK->Prop):Prop :=
 ∀ (pins:List (Addr × Obj)) (s:Shared) (σ:St) (H:Hp) (xs:List V) (us:List Value) (Q:VK),Inv X pins σ H s->Vals xs us->r xs H Q ->
  wpAny (model X.prog X.w) X.A (call f us) (EP X pins σ Q) X.xe s
def gG'(X:Cx)(r:V->Hp->(Bool->Hp->Prop)->Prop):Prop :=
 ∀ (pins:List (Addr × Obj)) (s:Shared) (σ:St) (H:Hp) (x:V) (v:Value) (Q:Bool->Hp->Prop),Inv X pins σ H s->RelV x v->r x H Q ->
  wpAny (model X.prog X.w) X.A (truthy v) (TP X pins σ Q) X.xe s
def L7(r:R2)(ta tb:TE):TE:=λσ H Q=>ta σ H λx H1=>tb σ H1 λy H2=>r x y H2 Q
def tUn(r:V->Hp->VK->Prop)(ta:TE):TE:=λσ H Q=>ta σ H λx H1=>r x H1 Q
def rI(C:Int->Int->Prop)(g:Int->Int->V):R2:=λx y H Q=>∃ i j,x=.int i/\y=.int j/\C i j/\Q (g i j) H
def CL(g:Int->Int->V):R2:=λx y H Q=>∃ i j,x=.int i/\y=.int j/\Q (g i j) H
section
variable {X:Cx}{a b:Expr}{ta tb:TE}{pos:Pos}
theorem Uz(ha:PE X a ta)(hb:PE X b tb){pins:List (Addr × Obj)}{s:Shared}{σ:St}{H:Hp}{R:V->V->Hp->Prop}(I:Inv X pins σ H s)(h:ta σ H λx H1=>tb σ H1 λy H2=>R x y H2) {Q:Value->Shared->Prop} {f:Value->Value->Sem Value}(hf:∀ v u s2 x y H2,Inv X pins σ H2 s2->RelV x v->RelV y u->R x y H2->wpAny (model X.prog X.w) X.A (f v u) Q X.xe s2) :
  wpAny (model X.prog X.w) X.A (eval a X.env) (λv eh=>wpAny (model X.prog X.w) X.A (eval b X.env) (λu EJ=>wpAny (model X.prog X.w) X.A (f v u) Q X.xe EJ) X.xe eh) X.xe s:=by
 refine bX (ha pins s σ H _ I h) λv s1 b6=>L2.fe b6 λx H1 I1 r1 q1=>?_;refine bX (hb pins s1 σ H1 _ I1 q1) λu s2 b6=>L2.fe b6 λy H2 I2 r2 q2=>?_;exact hf v u s2 x y H2 I2 r1 r2 q2
theorem bB'{op:Operator}{r:R2}(ho:cx X (binaryOp op) r)(ha:PE X a ta)(hb:PE X b tb):PE X (.BinOp a op b pos) (L7 r ta tb):=by intro pins s σ H Q I h;exact wpAny_BinOp (Uz ha hb I h λv u s2 x y H2 I2 rx ry q=>ho pins s2 σ H2 x y v u Q I2 rx ry q)
theorem UA{f:Value->Value->Sem Value}{C:Int->Int->Prop}{g:Int->Int->Int}(rule:∀ (i j:Int) (t u:Tok) (s:Shared) (Q:Value->Shared->Prop) (E:Value->Shared->Prop),C i j->Q (.int (g i j) s.toks) { s with toks:=s.toks+1 }->wpAny (model X.prog X.w) X.A (f (.int i t) (.int j u)) Q E s) :
  cx X f (rI C λi j=>.int (g i j)):=by
 walk_at"e";obtain⟨i,j,rfl,rfl,hc,q⟩:=h;walk_at"K";walk_at"aW";exact rule i j t t' s _ _ hc ⟨.int (g i j),H,I.tok _,⟨_,rfl⟩,q⟩
theorem bC'{f:Value->Value->Sem Value}{g:Int->Int->Int}(rule:∀ (i j:Int) (t u:Tok) (s:Shared) (Q:Value->Shared->Prop) (E:Value->Shared->Prop),Q (.int (g i j) s.toks) { s with toks:=s.toks+1 }->wpAny (model X.prog X.w) X.A (f (.int i t) (.int j u)) Q E s) :
  cx X f (CL λi j=>.int (g i j)):=by
 walk_at"e";obtain⟨i,j,rfl,rfl,q⟩:=h;walk_at"K";walk_at"aW";exact rule i j t t' s _ _ ⟨.int (g i j),H,I.tok _,⟨_,rfl⟩,q⟩
theorem R4{f:Value->Value->Sem Value}{g:Int->Int->Bool}(rule:∀ (i j:Int) (t u:Tok) (s:Shared) (Q:Value->Shared->Prop) (E:Value->Shared->Prop),Q (.bool (g i j)) s->wpAny (model X.prog X.w) X.A (f (.int i t) (.int j u)) Q E s) :
  cx X f (CL λi j=>.bl (g i j)):=by
 walk_at"e";obtain⟨i,j,rfl,rfl,q⟩:=h;walk_at"K";walk_at"aW";exact rule i j t t' s _ _ ⟨.bl (g i j),H,I,rfl,q⟩
def gH'(i j:Int):Prop:=0<j/\j<1073741824
def G0(i j:Int):Prop:=(-(2 ^ 64)<i/\i<2 ^ 64)\/(-(2 ^ 64)<j/\j<2 ^ 64)
theorem G0.ok{i j:Int}(h:G0 i j):IntMulOk i j:=by
 rcases h with⟨h1,h2⟩|⟨h1,h2⟩
 ·exact .of_left (intBits_le_64 h1 h2)
 ·exact .of_right (intBits_le_64 h1 h2)
theorem gI':cx X (binaryOp .Add) (CL λi j=>.int (i+j)):=bC' λ_ _ _ _ _ _ _ q=>add_int q
theorem gJ':cx X (binaryOp .Sub) (CL λi j=>.int (i-j)):=bC' λ_ _ _ _ _ _ _ q=>sub_int q
theorem gK':cx X (binaryOp .Mult) (rI G0 λi j=>.int (i*j)):=UA λ_ _ _ _ _ _ _ hc q=>mul_int q hc.ok
theorem gL':cx X (binaryOp .FloorDiv) (rI gH' λi j=>.int (i / j)):=UA λi j _ _ _ _ _ hc q=>by have h1:(0:Int)<j:=hc.1;have h2:j<1073741824:=hc.2;exact floordiv_int (by lia) (by rw[Int.fdiv_eq_ediv_of_nonneg i (by exact y6 ‹_›)];exact q) (.inl (PyProof.noPylong_small (by lia)))
theorem gM':cx X (binaryOp .Mod) (rI (λ_ j=>0<j) λi j=>.int (i % j)):=UA λi j _ _ _ _ _ hc q=>by have h1:(0:Int)<j:=hc;exact mod_int' (by lia) (by rw[Int.fmod_eq_emod_of_nonneg i (by exact y6 ‹_›)];exact q)
end
def bD':V->V->Bool
 |.non,.non=>true|.non,.int _=>true|.int _,.non=>true|.non,.bl _=>true|.bl _,.non=>true|.non,.str _=>true|.str _,.non=>true
 |.int _,.int _=>true|.bl _,.bl _=>true|.str _,.str _=>true|.rL _,.rL _=>true
 |.int _,.str _=>true|.str _,.int _=>true|.bl _,.str _=>true|.str _,.bl _=>true
 |_,_=>false
def rEq:R2:=λx y H Q=>bD' x y=true/\Q (.bl (decide (x=y))) H
def rNe:R2:=λx y H Q=>bD' x y=true/\Q (.bl (!decide (x=y))) H
theorem bE'{i j:Int}:decide (V.int i=V.int j)=(i == j):=by rw[y2];simp
theorem bF'{i j:Bool}:decide (V.bl i=V.bl j)=(i == j):=by rw[y2];simp
theorem bG'{i j:Str}:decide (V.str i=V.str j)=(i == j):=by rw[y2];simp
theorem bH'{i j:Array UInt8}:decide (V.rL i=V.rL j)=(i.toList == j.toList):=by rw[y2];cases i;cases j;simp
section
variable {X:Cx}{a b c:Expr}{ta tb tc:TE}{pos:Pos}
theorem gg{pins:List (Addr × Obj)}{σ:St}{H:Hp}{s:Shared}{Q:VK}{k k':Bool}(I:Inv X pins σ H s)(q:Q (.bl k) H)(e:k=k'):EP X pins σ Q (.bool k') s:=by subst e;exact⟨.bl k,H,I,rfl,q⟩
theorem gP':cx X (compareOp .Eq) rEq:=by
 walk_at"e";obtain⟨hs,q⟩:=h
 cases x with
 |non =>
  cases rx
  cases y with
  |non=>cases ry;exact PySem.EqNone.eq_none_none (gg I q (by simp))
  |bl j=>cases ry;exact PySem.EqNone.eq_none_bool (gg I q (by simp))
  |int j=>obtain⟨t',rfl⟩:=ry;exact PySem.EqNone.eq_none_int (gg I q (by simp))
  |str j=>obtain⟨t',rfl⟩:=ry;exact PySem.EqNone.eq_none_str (gg I q (by simp))
  |_=>exact absurd (show false=true from hs) hU
 |bl i =>
  cases rx
  cases y with
  |non=>cases ry;exact PySem.EqNone.eq_bool_none (gg I q (by simp))
  |bl j=>cases ry;exact eq_bool (gg I q bF')
  |str j=>obtain⟨t',rfl⟩:=ry;exact PySem.EqMixed.eq_bool_str (gg I q (by simp))
  |_=>exact absurd (show false=true from hs) hU
 |int i =>
  walk_at"K"
  cases y with
  |non=>cases ry;exact PySem.EqNone.eq_int_none (gg I q (by simp))
  |int j=>obtain⟨t',rfl⟩:=ry;exact eq_int (gg I q bE')
  |str j=>obtain⟨t',rfl⟩:=ry;exact PySem.EqMixed.eq_int_str (gg I q (by simp))
  |_=>exact absurd (show false=true from hs) hU
 |str i =>
  walk_at"K"
  cases y with
  |non=>cases ry;exact PySem.EqNone.eq_str_none (gg I q (by simp))
  |bl j=>cases ry;exact PySem.EqMixed.eq_str_bool (gg I q (by simp))
  |int j=>obtain⟨t',rfl⟩:=ry;exact PySem.EqMixed.eq_str_int (gg I q (by simp))
  |str j=>obtain⟨t',rfl⟩:=ry;exact eq_str (gg I q bG')
  |_=>exact absurd (show false=true from hs) hU
 |rL i =>
  walk_at"K"
  cases y with
  |rL j=>obtain⟨t',rfl⟩:=ry;exact PySem.W.eq_bytes (gg I q bH')
  |_=>exact absurd (show false=true from hs) hU
 |_=>cases y<;>exact absurd (show false=true from hs) hU
theorem gQ':cx X (compareOp .NotEq) rNe:=by
 walk_at"e";obtain⟨hs,q⟩:=h
 cases x with
 |non =>
  cases rx
  cases y with
  |non=>cases ry;exact PySem.EqNone.ne_none_none (gg I q (by simp))
  |bl j=>cases ry;exact PySem.EqNone.ne_none_bool (gg I q (by simp))
  |int j=>obtain⟨t',rfl⟩:=ry;exact PySem.EqNone.ne_none_int (gg I q (by simp))
  |str j=>obtain⟨t',rfl⟩:=ry;exact PySem.EqNone.ne_none_str (gg I q (by simp))
  |_=>exact absurd (show false=true from hs) hU
 |bl i =>
  cases rx
  cases y with
  |non=>cases ry;exact PySem.EqNone.ne_bool_none (gg I q (by simp))
  |bl j=>cases ry;exact ne_bool (gg I q (congrArg not bF'))
  |str j=>obtain⟨t',rfl⟩:=ry;exact PySem.EqMixed.ne_bool_str (gg I q (by simp))
  |_=>exact absurd (show false=true from hs) hU
 |int i =>
  walk_at"K"
  cases y with
  |non=>cases ry;exact PySem.EqNone.ne_int_none (gg I q (by simp))
  |int j=>obtain⟨t',rfl⟩:=ry;exact ne_int (gg I q (congrArg not bE'))
  |str j=>obtain⟨t',rfl⟩:=ry;exact PySem.EqMixed.ne_int_str (gg I q (by simp))
  |_=>exact absurd (show false=true from hs) hU
 |str i =>
  walk_at"K"
  cases y with
  |non=>cases ry;exact PySem.EqNone.ne_str_none (gg I q (by simp))
  |bl j=>cases ry;exact PySem.EqMixed.ne_str_bool (gg I q (by simp))
  |int j=>obtain⟨t',rfl⟩:=ry;exact PySem.EqMixed.ne_str_int (gg I q (by simp))
  |str j=>obtain⟨t',rfl⟩:=ry;exact ne_str (gg I q (congrArg not bG'))
  |_=>exact absurd (show false=true from hs) hU
 |rL i =>
  walk_at"K"
  cases y with
  |rL j=>obtain⟨t',rfl⟩:=ry;exact PySem.W.ne_bytes (gg I q (congrArg not bH'))
  |_=>exact absurd (show false=true from hs) hU
 |_=>cases y<;>exact absurd (show false=true from hs) hU
theorem gR':cx X (compareOp .Lt) (CL λi j=>.bl (decide (i<j))):=R4 λ_ _ _ _ _ _ _ q=>lt_int q
theorem gS':cx X (compareOp .LtE) (CL λi j=>.bl (decide (i<=j))):=R4 λ_ _ _ _ _ _ _ q=>le_int q
theorem gT':cx X (compareOp .Gt) (CL λi j=>.bl (decide (j<i))):=R4 λ_ _ _ _ _ _ _ q=>gt_int q
theorem gU':cx X (compareOp .GtE) (CL λi j=>.bl (decide (j<=i))):=R4 λ_ _ _ _ _ _ _ q=>ge_int q
theorem gV':cx X (compareOp .Lt) (λx y H Q=>∃ i j,x=.str i/\y=.str j/\Q (.bl (decide (i.cps.toList<j.cps.toList))) H):=by intro pins s σ H x y v u Q I rx ry h;obtain⟨i,j,rfl,rfl,q⟩:=h;obtain⟨t,rfl⟩:=rx;obtain⟨t',rfl⟩:=ry;exact lt_str (gg I q rfl)
theorem gW':cx X (compareOp .In) (λx y H Q=>∃ i j,x=.str i/\y=.str j/\Q (.bl (!(Builtin.Str.occurrences j i 0 j.length 1).isEmpty)) H):=by intro pins s σ H x y v u Q I rx ry h;obtain⟨i,j,rfl,rfl,q⟩:=h;obtain⟨t,rfl⟩:=rx;obtain⟨t',rfl⟩:=ry;exact in_str (gg I q rfl)
theorem gX':cx X (compareOp .Is) (λx y H Q=>y=.non/\Q (.bl (decide (x=.non))) H):=by
 walk_at"e";obtain⟨rfl,q⟩:=h;cases ry;refine is_none_gen (gg I q ?_);cases x<;>first
  | (cases rx;rfl)
  | (obtain⟨t,rfl⟩:=rx;rfl)
theorem gY':cx X (compareOp .NotIn) (λx y H Q=>∃ i j,x=.str i/\y=.str j/\Q (.bl (!(!(Builtin.Str.occurrences j i 0 j.length 1).isEmpty))) H):=by intro pins s σ H x y v u Q I rx ry h;obtain⟨i,j,rfl,rfl,q⟩:=h;obtain⟨t,rfl⟩:=rx;obtain⟨t',rfl⟩:=ry;exact notIn_str (gg I q rfl)
theorem cx.or{f:Value->Value->Sem Value}{r r':R2}(h:cx X f r)(h':cx X f r'):cx X f (λx y H Q=>r x y H Q\/r' x y H Q):=by
 intro pins s σ H x y v u Q I rx ry q;rcases q with q|q
 ·exact h pins s σ H x y v u Q I rx ry q
 ·exact h' pins s σ H x y v u Q I rx ry q
theorem fm(b:Expr){op:CmpOp}(h:op≠.In:=by decide)(h2:op≠.NotIn:=by decide):behindInMarks op b=false:=by
 have e1:(op == CmpOp.In)=false:=by cases op<;>first|rfl|exact absurd rfl h
 have e2:(op == CmpOp.NotIn)=false:=by cases op<;>first|rfl|exact absurd rfl h2
 cases b<;>simp[behindInMarks,e1,e2]
theorem gZ'{op:CmpOp}{r:R2}(ho:cx X (compareOp op) r)(ha:PE X a ta)(hb:PE X b tb)(hm:behindInMarks op b=false):PE X (.Compare a [op] [b] pos) (L7 r ta tb):=by intro pins s σ H Q I h;exact wpAny_Compare1 (Uz ha hb I h λv u s2 x y H2 I2 rx ry q=>ho pins s2 σ H2 x y v u Q I2 rx ry q) hm
def UB(t:TE):TT:=λσ H Q=>t σ H λx H'=>∃ k,x=.bl k/\Q k H'
theorem ha'{op:CmpOp}{r:R2}(ho:cx X (compareOp op) r)(ha:PE X a ta)(hb:PE X b tb)(hm:behindInMarks op b=false):PT X (.Compare a [op] [b] pos) (UB (L7 r ta tb)):=by
 intro pins s σ H Q I h;refine wpAny_isTrue_Compare1 (bX (ha pins s σ H _ I h) λv s1 b6=>L2.fe b6 λx H1 I1 r1 q1=>bX (hb pins s1 σ H1 _ I1 q1) λu s2 b6=>L2.fe b6 λy H2 I2 r2 q2 =>
  bX (ho pins s2 σ H2 x y v u _ I2 r1 r2 q2) λc s3 ⟨z,H3,I3,r3,k,e,q3⟩=>?_) hm
 subst e;cases r3;exact wpAny_truthy_bool ⟨H3,I3,q3⟩
def UC(r r':R2)(ta tb tc:TE):TE:=λσ H Q=>ta σ H λx H1=>tb σ H1 λy H2=>r x y H2 λz H3=>∃ k,z=.bl k /\ (if k=true then tc σ H3 λw' H4=>r' y w' H4 Q else Q (.bl false) H3)
theorem hb'{op op':CmpOp}{r r':R2}(ho:cx X (compareOp op) r)(kz:cx X (compareOp op') r')(ha:PE X a ta)(hb:PE X b tb)(hc:PE X c tc)(hm:lastMarks [op,op'] [b,c]=false:=by with_unfolding_all rfl):PE X (.Compare a [op,op'] [b,c] pos) (UC r r' ta tb tc):=by
 intro pins s σ H Q I h;refine Compare_chain (bX (ha pins s σ H _ I h) λv s1 b6=>L2.fe b6 λx H1 I1 r1 q1=>chain_link (bX (hb pins s1 σ H1 _ I1 q1) λu s2 b6=>L2.fe b6 λy H2 I2 r2 q2 =>
  bX (ho pins s2 σ H2 x y v u _ I2 r1 r2 q2) λd s3 ⟨z,H3,I3,r3,k,e,q3⟩=>?_)) hm
 subst e;cases r3;refine wpAny_truthy_bool ?_
 cases k with
 |false=>exact ite_ff ⟨.bl false,H3,I3,rfl,q3⟩
 |true=>exact ite_tt (chain_last (bX (hc pins s3 σ H3 _ I3 q3) λw' s4 ⟨z',H4,I4,r4,q4⟩=>kz pins s4 σ H4 y z' u w' Q I4 r2 r4 q4))
theorem hf'{op op':CmpOp}{r r':R2}(ho:cx X (compareOp op) r)(kz:cx X (compareOp op') r')(ha:PE X a ta)(hb:PE X b tb)(hc:PE X c tc)(hm:lastMarks [op,op'] [b,c]=false:=by with_unfolding_all rfl):PT X (.Compare a [op,op'] [b,c] pos) (UB (UC r r' ta tb tc)):=by
 intro pins s σ H Q I h;refine isTrue_chain (bX (ha pins s σ H _ I h) λv s1 b6=>L2.fe b6 λx H1 I1 r1 q1=>test_link (bX (hb pins s1 σ H1 _ I1 q1) λu s2 b6=>L2.fe b6 λy H2 I2 r2 q2 =>
  bX (ho pins s2 σ H2 x y v u _ I2 r1 r2 q2) λd s3 ⟨z,H3,I3,r3,k,e,q3⟩=>?_)) hm
 subst e;cases r3;refine wpAny_truthy_bool ?_
 cases k with
 |false =>obtain⟨k',e',q'⟩:=q3;cases e';exact ite_ff ⟨H3,I3,q'⟩
 |true =>refine ite_tt (test_last (bX (hc pins s3 σ H3 _ I3 q3) λw' s4 ⟨z',H4,I4,r4,q4⟩=>bX (kz pins s4 σ H4 y z' u w' _ I4 r2 r4 q4) λd' s5 ck=>?_));obtain⟨z2,H5,I5,r5,k2,e2,q5⟩:=ck;subst e2;cases r5;exact wpAny_truthy_bool ⟨H5,I5,q5⟩
def UD(K:PySem.W.Frag)(x:V)(H:Hp)(k:Bool):Prop :=
 match x with
 |.non=>k=false
 |.bl b=>k=b
 |.int i=>k=(i != 0)
 |.str y=>y.length<=sizeLine/\k=((y.length:Int) != 0)
 |.rL y=>y.size<=sizeLine/\k=((y.size:Int) != 0)
 |.ref p=>(∃ xs,eJ K H p xs/\k = !xs.isEmpty)\/(∃ xs,ke K H p xs/\k = !xs.isEmpty)\/∃ ae,H p=some (.dK ae)/\k = !ae.isEmpty
 |_=>False
theorem hg'{κ:Type}{ae:List (κ × V)}{vs:List (κ × Value)}(r:KV ae vs):(!vs.isEmpty) = !ae.isEmpty:=by cases r<;>rfl
theorem bI'{xs:List V}{its:List Value}(r:Vals xs its):(!its.toArray.isEmpty) = !xs.isEmpty:=by cases r<;>simp
theorem L8:(sizeLine:Nat)<2 ^ 63:=by rw[sizeLine_eq];decide
theorem hr':gG' X (λx H Q=>∃ k,UD X.K x H k/\Q k H):=by
 intro pins s σ H x v Q I rx h;obtain⟨k,e,q⟩:=h;have hl:=L8;have hs:sizeLine=16777216:=sizeLine_eq
 cases x with
 |non =>cases rx;have e':k=false:=e;subst e';exact truthy_none ⟨H,I,q⟩
 |bl b =>cases rx;have e':k=b:=e;subst e';exact wpAny_truthy_bool ⟨H,I,q⟩
 |int i =>obtain⟨t,rfl⟩:=rx;have e':k=(i != 0):=e;subst e';exact PySem.P.truthy_int ⟨H,I,q⟩
 |str y =>obtain⟨t,rfl⟩:=rx;obtain⟨hy,e'⟩:y.length<=sizeLine/\k=((y.length:Int) != 0):=e;subst e';exact PySem.P.truthy_str (by lia) ⟨H,I.tok _,q⟩
 |rL y =>obtain⟨t,rfl⟩:=rx;obtain⟨hy,e'⟩:y.size<=sizeLine/\k=((y.size:Int) != 0):=e;subst e';exact PySem.W.truthy_bytes (by lia) ⟨H,I.tok _,q⟩
 |ref p =>
  cases rx;have e':(∃ xs,eJ X.K H p xs/\k = !xs.isEmpty)\/(∃ xs,ke X.K H p xs/\k = !xs.isEmpty)\/∃ ae,H p=some (.dK ae)/\k = !ae.isEmpty:=e;rcases e' with⟨xs,hx,e'⟩|⟨xs,hx,e'⟩|⟨ae,hx,e'⟩
  ·subst e';obtain⟨its,r,pl,hz⟩:=I.list hx;have hlen:=r.length;exact wpAny_truthy_list pl.isList (by simp only[i5];lia) ⟨H,I.tok _,by rw[bI' r];exact q⟩
  ·subst e';obtain⟨its,r,pl,hz⟩:=I.tuple hx;have hlen:=r.length;exact truthy_tuple pl (by simp only[i5];lia) ⟨H,I.tok _,by rw[bI' r];exact q⟩
  ·subst e';obtain⟨hz,hS,vs,r,m⟩:ae.length<=sizeLine/\(p == sysModules)=false/\∃ vs,KV ae vs/\s.heap.DictOf (kL X.prog X.w) p vs:=I.aS p _ hx;have hlen:ae.length=vs.length:=Paired.length r;exact wpAny_truthy_dict hS m (by lia) ⟨H,I.tok _,by rw[hg' r];exact q⟩
 |_=>exact(show False from e).elim
theorem hw'(ha:PE X a ta)(he:∀ whole,isTrue a X.env whole=(do let v <- whole;standAt a.pos;holding [v] (truthy v))) :
  PT X a (λσ H Q=>ta σ H λx H'=>∃ k,UD X.K x H' k/\Q k H'):=by
 walk_at"x";exact isTrue_plain (bX (ha pins s σ H _ I h) λv s1 b6=>L2.fe b6 λx H1 I1 r1 q1=>hr' pins s1 σ H1 x v Q I1 r1 q1) (he _)
theorem hx':cx X (binaryOp .Add) (λx y H Q=>∃ i j,x=.str i/\y=.str j/\i.length+j.length<=sizeLine/\Q (.str (i++j)) H):=by intro pins s σ H x y v u Q I rx ry h;obtain⟨i,j,rfl,rfl,hz,q⟩:=h;obtain⟨t,rfl⟩:=rx;obtain⟨t',rfl⟩:=ry;exact add_str (λt' tk=>⟨.str (i++j),H,I.tok _,⟨_,rfl⟩,q⟩) hz
theorem vals1{x:V}{us:List Value}(r:Vals [x] us):∃ u,us=[u]/\RelV x u:=by
 cases r with
 |cons r1 r2=>cases r2;exact⟨_,rfl,r1⟩
theorem vals2{x y:V}{us:List Value}(r:Vals [x,y] us):∃ u w',us=[u,w']/\RelV x u/\RelV y w':=by
 cases r with
 |cons r1 r2 =>
  cases r2 with
  |cons r3 r4=>cases r4;exact⟨_,_,rfl,r1,r3⟩
theorem hy' (hc:X.calm=true):i9 X (.builtin "max") (λxs H Q=>∃ i j,xs=[.int i,.int j]/\Q (.int (if j>i then j else i)) H):=by
 walk_at"o";obtain⟨i,j,rfl,q⟩:=h;obtain⟨u,w',rfl,⟨t,rfl⟩,⟨t',rfl⟩⟩:=vals2 r;refine max_two_ints (I.ok.hd hc) λh' tk k=>⟨_,H,I.kept k,?_,q⟩
 by_cases hj:j>i
 ·rw[if_pos hj,if_pos hj];exact⟨_,rfl⟩
 ·rw[if_neg hj,if_neg hj];exact⟨_,rfl⟩
theorem hA' (hc:X.calm=true):i9 X (.builtin "min") (λxs H Q=>∃ i j,xs=[.int i,.int j]/\Q (.int (if j<i then j else i)) H):=by
 walk_at"o";obtain⟨i,j,rfl,q⟩:=h;obtain⟨u,w',rfl,⟨t,rfl⟩,⟨t',rfl⟩⟩:=vals2 r;refine min_two_ints (I.ok.hd hc) λh' tk k=>⟨_,H,I.kept k,?_,q⟩
 by_cases hj:j<i
 ·rw[if_pos hj,if_pos hj];exact⟨_,rfl⟩
 ·rw[if_neg hj,if_neg hj];exact⟨_,rfl⟩
def hD'(K:PySem.W.Frag)(x:V)(H:Hp)(n:Nat):Prop :=
 match x with
 |.str y=>y.length<=sizeLine/\n=y.length
 |.rL y=>y.size<=sizeLine/\n=y.size
 |.ref p=>(∃ xs,eJ K H p xs/\n=xs.length)\/∃ xs,ke K H p xs/\n=xs.length
 |_=>False
theorem UE:i9 X (.builtin "len") (λxs H Q=>∃ x n,xs=[x]/\hD' X.K x H n/\Q (.int n) H):=by
 walk_at"o";obtain⟨x,n,rfl,e,q⟩:=h;obtain⟨u,rfl,rx⟩:=vals1 r;have hl:=L8;have hs:sizeLine=16777216:=sizeLine_eq
 cases x with
 |str y =>obtain⟨t,rfl⟩:=rx;obtain⟨hy,e'⟩:y.length<=sizeLine/\n=y.length:=e;subst e';exact len_str (by lia) ⟨.int _,H,I.tok _,⟨_,rfl⟩,q⟩
 |rL y =>obtain⟨t,rfl⟩:=rx;obtain⟨hy,e'⟩:y.size<=sizeLine/\n=y.size:=e;subst e';exact PySem.W.len_bytes (by walk_at "s4") ⟨.int _,H,I.tok _,⟨_,rfl⟩,q⟩
 |ref p =>
  cases rx;have e':(∃ xs,eJ X.K H p xs/\n=xs.length)\/∃ xs,ke X.K H p xs/\n=xs.length:=e;rcases e' with⟨xs,hx,e'⟩|⟨xs,hx,e'⟩
  ·subst e';obtain⟨its,r',pl,hz⟩:=I.list hx;have hlen:=r'.length;exact Calls.call_len_list pl.isList (by simp only[i5];lia) ⟨.int xs.length,H,I.tok _,⟨_,by simp only[i5];rw[hlen]⟩,q⟩
  ·subst e';obtain⟨its,r',pl,hz⟩:=I.tuple hx;have hlen:=r'.length;exact len_tuple pl (by simp only[i5];lia) ⟨.int xs.length,H,I.tok _,⟨_,by simp only[i5];rw[hlen]⟩,q⟩
 |_=>exact(show False from e).elim
end
structure UG(h:Heap)(x dx C:Addr)(mA:Str->Option Value):Prop where
 obj:h.get? x=some (PySem.W.instObj C dx)
 ns:h.Ns1 dx mA
 ne:dx≠x
theorem lookIn_ns{h:Heap}{dx:Addr}{mA:Str->Option Value}(n:h.Ns1 dx mA):∃ od,h.get? dx=some od/\∀ name,PySem.W.lookIn name od=some (mA name):=by
 obtain⟨o,es,ep,ho,hd,hk,_,hm⟩:=n;refine⟨o,ho,λname=>?_⟩;have e:=hm name;unfold nsFind findBy at e;rw[<- Array.find?_toList] at e;unfold PySem.W.lookIn;rw[hd];dsimp only;split
 ·rename_i y q;rw[q] at e;exact congrArg some e
 ·rename_i q;rw[q] at e;have a:es.toList.any (·.refKey)=false:=by rw[List.any_eq_false];intro y hy;obtain⟨z,t,hE'⟩:=hk y (Array.mem_toList_iff.mp hy);simp[DictEntry.refKey,hE']
  have a':¬ es.toList.any (·.refKey)=true:=by rw[a];exact hU
  rw[if_neg a'];exact congrArg some e
theorem UG.look{h:Heap}{x dx C:Addr}{mA:Str->Option Value}(I:UG h x dx C mA):∃ od,PySem.W.InstAt h x (PySem.W.instObj C dx) C (some od)/\∀ name,PySem.W.lookIn name od=some (mA name) :=
 let ⟨od,ho,hl⟩:=lookIn_ns I.ns
 ⟨od,⟨I.obj,rfl,rfl,ho⟩,hl⟩
theorem xD.some_of{v:V}{o:Option Value}(r:xD (some v) o):∃ u,o=some u/\RelV v u:=by
 cases o with
 |none=>exact(show False from r).elim
 |some u=>exact⟨u,rfl,r⟩
section
variable {P:Program}{w:World}{H:Hp}{h:Heap}{a C dx:Addr}{fs:List (Str × V)}
theorem R5(aS:fE P w H h)(e:H a=some (.ins C dx fs)):∃ mA,UG h a dx C mA/\(∀ f,xD (fs.lookup f) (mA f))/\PySem.Within mA (fs.map (·.1))/\fs.length<=1000/\H dx=some (.own a):=by
 obtain⟨d,z,ne,ob,mA,n,r,q⟩:=(show fh P w H h a (.ins C dx fs) from aS a _ e)
 exact⟨mA,⟨ob,n,ne⟩,r,q,z,d⟩
end
structure UH(K:PySem.W.Frag)(C:Addr):Prop where
 pg:PySem.W.plainGet K C Str.empty=true
 hd:PySem.W.hasDictIn K C=true
 po:PySem.W.plainOver K C=true
 sa:PySem.W.findIn K (.ref C) "__setattr__" = some (some (.builtin "object.__setattr__"))
theorem UH.get{K:PySem.W.Frag}{C:Addr}(c:UH K C)(f:Str):PySem.W.plainGet K C f=true:=c.pg
section
variable {X:Cx}{pins:List (Addr × Obj)}{σ:St}{H:Hp}{s:Shared}{A:Around}{E:Value->Shared->Prop}{Q:Value->Shared->Prop}{c:Value}{b:Bool}
inductive wq(K:PySem.W.Frag)(H:Hp):V->Value->Prop where
 |non:wq K H .non (.type "NoneType")
 |bl (x:Bool):wq K H (.bl x) (.type "bool")
 |int (i:Int):wq K H (.int i) (.type "int")
 |str (x:Str):wq K H (.str x) (.type "str")
 |AJ (x:UInt64):wq K H (.AJ x) (.type "float")
 |lst {a:Addr} {xs:List V} (e:H a=some (.lst xs)):wq K H (.ref a) (.type "list")
 |mB {a:Addr} {o:Obj} {xs:List V} (e:H a=some (.mB o (.lst xs))):wq K H (.ref a) (.type "list")
 |tup {a:Addr} {xs:List V} (e:H a=some (.tup xs)):wq K H (.ref a) (.type "tuple")
 |dK {a:Addr} {ae:List (Key × V)} (e:H a=some (.dK ae)):wq K H (.ref a) (.type "dict")
 |dT {a:Addr} {ae:List (List Key × V)} (e:H a=some (.dT ae)):wq K H (.ref a) (.type "dict")
 |ins {a C dx:Addr} {fs:List (Str × V)} (e:H a=some (.ins C dx fs)) (cl:UH K C) (ha:PySem.W.findIn K (.ref C) "__class__" = some (some (.builtin "object.__class__")))
   (hn:PySem.W.specialIn K (.builtin "object.__class__") "__get__" = some (some (.builtin "getset_descriptor.__get__"))) (htk:PySem.W.takesIn K (.builtin "object.__class__")=some true)
   (hm:PySem.W.mroIn K C (.type "object")=some true):wq K H (.ref a) (.ref C)
theorem L9{x:V}{u t:Value}(I:Inv X pins σ H s)(rx:RelV x u)(ty:wq X.K H x t)(e:PySem.W.kitOne X.K t c=some b)(h:∀ tk,Q (.bool b) { s with toks:=tk }) :
  wpAny (model X.prog X.w) A (call (.builtin "isinstance") [u,c]) Q E s:=by
 cases ty with
 |non=>cases (show u=Value.none from rx);exact PySem.W.kia_one PySem.W.kitx_none I.kc True.intro e (λz=>nomatch z) h
 |bl y=>cases (show u=Value.bool y from rx);exact PySem.W.kia_one PySem.W.kitx_bool I.kc True.intro e (λz=>nomatch z) h
 |int i=>obtain⟨t,q⟩:=(show ∃ t,u=Value.int i t from rx);cases q;exact PySem.W.kia_one PySem.W.kitx_int I.kc True.intro e (λz=>nomatch z) h
 |str y=>obtain⟨t,q⟩:=(show ∃ t,u=Value.str y t from rx);cases q;exact PySem.W.kia_one PySem.W.kitx_str I.kc True.intro e (λz=>nomatch z) h
 |AJ y=>obtain⟨t,q⟩:=(show ∃ t,u=Value.float y t from rx);cases q;exact PySem.W.kia_one PySem.W.kitx_float I.kc True.intro e (λz=>nomatch z) h
 |@lst a xs ea =>
  walk_at"S";obtain⟨_,_,n,_,h1⟩:=(show fh X.prog X.w H s.heap a (.lst xs) from I.aS a _ ea)
  walk_at"au"
 |@mB a ob xs ea =>
  walk_at"S";obtain⟨_,_,_,n,_,h1⟩:=(show fh X.prog X.w H s.heap a (.mB ob (.lst xs)) from I.aS a _ ea)
  walk_at"au"
 |@tup a xs ea =>
  walk_at"S";obtain⟨_,_,_,p⟩:=(show fh X.prog X.w H s.heap a (.tup xs) from I.aS a _ ea)
  obtain⟨o,h1,h2,_⟩:=p;exact PySem.W.kia_one PySem.W.kitx_tuple I.kc ⟨o,h1,h2⟩ e (λz=>nomatch z) h
 |@dK a ae ea =>
  walk_at"S";obtain⟨_,_,vs,_,p⟩:=(show fh X.prog X.w H s.heap a (.dK ae) from I.aS a _ ea)
  obtain⟨o,es,ep,h1,h2,_⟩:=p;walk_at"at"
 |@dT a ae ea =>
  walk_at"S";obtain⟨_,_,xs,_,o,es,ep,h1,h2,_⟩:=(show fh X.prog X.w H s.heap a (.dT ae) from I.aS a _ ea)
  walk_at"at"
 |@ins a C dx fs ea cl ha hn htk hm =>cases (show u=Value.ref a from rx);obtain⟨mA,O,_⟩:=R5 I.aS ea;obtain⟨od,J,_⟩:=O.look;exact PySem.W.kia_one (PySem.W.kitx_own (cl.get _) cl.hd ha hn htk hm) I.kc J e (λz=>nomatch z) h
end
structure gI(k:Nat)(A:Around):Prop where
 hd:A.handled=none
 dp:A.depth+3*k+5<recursionLimit
 un:A.units+16*k+200<cLine
theorem gI.mono{j k:Nat}{A:Around}(r:gI k A)(h:j<=k):gI j A:=⟨r.hd,by have:=r.dp;lia,by have:=r.un;lia⟩
theorem gI.deeper{k:Nat}{A:Around}(r:gI (k+1) A)(env:Env):gI k (A.deeper env) :=
 ⟨r.hd,by have:=r.dp;show A.depth+1+3*k+5<_;lia,by have:=r.un;show A.units+3+16*k+200<_;lia⟩
theorem gI.depth{k:Nat}{A:Around}(r:gI k A):A.depth<recursionLimit:=by have:=r.dp;lia
theorem gI.units{k:Nat}{A:Around}(r:gI k A):A.units+64<cLine:=by have:=r.un;lia
def bK':TA:=λ_ H Q=>Q [] H
def bL'(ta:TE)(tr:TA):TA:=λσ H Q=>ta σ H λx H1=>tr σ H1 λxs H2=>Q (x :: xs) H2
section
variable {X:Cx}{e:Expr}{es:List Expr}{te:TE}{t:TA}{pos:Pos}
theorem rU:PA X [] bK':=λ_ _ _ _ H Q I h=>Calls.spliced_nil ⟨[],H,I,.nil,h⟩
theorem mG(ha:PE X e te)(hr:PA X es t)(hs:starEach (e :: es) X.env=(false,eval e X.env) :: starEach es X.env:=by rfl):PA X (e :: es) (bL' te t):=by intro pos pins s σ H Q I h;rw[hs];show wpAny _ _ (spliced ((false,eval e X.env) :: backTo pos (starEach es X.env))) _ _ s;refine Calls.spliced_cons (bX (ha pins s σ H _ I h) λu s1 b6=>L2.fe b6 λx H1 I1 r1 q1=>?_);exact bX (hr pos pins s1 σ H1 _ I1 q1) λus s2 b6=>L2.fe b6 λxs H2 I2 r2 q2=>⟨x :: xs,H2,I2,.cons r1 r2,q2⟩
def hF'(t:TA):TE:=λσ H Q=>t σ H λxs H1=>xs.length<=sizeLine/\∀ p,H1 p=none->Q (.ref p) (upd H1 p (.tup xs))
def hG'(t:TA):TE:=λσ H Q=>t σ H λxs H1=>xs.length<=sizeLine/\∀ p,H1 p=none->Q (.ref p) (upd H1 p (.lst xs))
theorem UI{x1}(h:PA X es t):PE X (.Tuple es x1 pos) (hF' t):=by intro pins s σ H Q I hq;refine wpAny_Tuple_spliced (bX (h pos pins s σ H _ I hq) λus s1 ⟨xs,H1,I1,r,z,q⟩=>⟨by rw[<- r.length];exact z,?_⟩);have hf:H1 s1.heap.objs.size=none:=I1.aS.fresh (bE _);refine⟨.ref s1.heap.objs.size,upd H1 s1.heap.objs.size (.tup xs),I1.laid (t':=s1.toks) (λb u e=>dA _ e) (bE _) ?_,rfl,q _ hf⟩;exact⟨z,us,r,⟨_,gV _ rfl,rfl,_,rfl⟩⟩
theorem hH'(h:PA X es t):PE X (.List es pos) (hG' t):=by intro pins s σ H Q I hq;refine wpAny_List_spliced (bX (h pos pins s σ H _ I hq) λus s1 ⟨xs,H1,I1,r,z,q⟩=>⟨by rw[<- r.length];exact z,?_⟩);have hf:H1 s1.heap.objs.size=none:=I1.aS.fresh (bE _);refine⟨.ref s1.heap.objs.size,upd H1 s1.heap.objs.size (.lst xs),I1.laid (t':=s1.toks) (λb u e=>dA _ e) (bE _) ?_,rfl,q _ hf⟩;exact⟨z,us,0,r,gV _ rfl⟩
end
abbrev Sp:=List V->Hp->VK->XK->Prop
abbrev x3:=List Env->Hp->Shared->XK->Value->Shared->Prop
structure R6(P:Program)(w:World)(K:PySem.W.Frag)(mg:Str->Option Value)(base:Heap)(A:Around)(outer:List Env)(s:Shared)(H:Hp):Prop where
 frames:A.frames=some outer
 mod:Mod K mg base
 bs:∀ b o,base.get? b=some o->s.heap.get? b=some o/\H b=none
 tq:base.objs.size<=s.heap.objs.size
 qh:s.heap.FunFrames base outer
 xE:∀ b∈dz outer,H b=none
 aS:fE P w H s.heap
 bare:AllBare s.gens
def CE(outer:List Env)(P:Program)(w:World)(H:Hp)(s:Shared)(Q:VK)(u:Value)(s':Shared):Prop :=
 ∃ v H',s'.os=s.os/\AllBare s'.gens/\Un (dz outer) [] H H' s.heap s'.heap/\fE P w H' s'.heap/\RelV v u/\Q v H'
def CR(CX:x3)(outer:List Env)(P:Program)(w:World)(H:Hp)(s:Shared)(Q:VK)(E:XK)(r:Result)(s':Shared):Prop :=
 match r with
 |.ok (.ret u)=>CE outer P w H s Q u s'
 |.ok _=>False
 |.error e=>CX outer H s E e s'
structure fi(P:Program)(w:World)(K:PySem.W.Frag)(mg:Str->Option Value)(base:Heap)(CX:x3)(k:Nat)(f:Addr)(fd:FuncData)(ps:List Str)(sp:Sp):Prop where
 len:∀ vs H Q E,sp vs H Q E->vs.length=ps.length
 run:∀ (A:Around) (outer:List Env) (s:Shared) (H:Hp) (args:Args) (us:List Value) (vs:List V) (Q:VK) (E:XK),gI k A->R6 P w K mg base A outer s H->BindsTo s fd args (ps.zip us)->Vals vs us->sp vs H Q E ->
  codeAny (model P w) A (.call (.ref f) args) (CR CX outer P w H s Q E) s
section
variable {X:Cx}{pins:List (Addr × Obj)}{σ:St}{H:Hp}{s s':Shared}
theorem Inv.hI'(I:Inv X pins σ H s):R6 X.prog X.w X.K X.mg X.base X.A X.stack s H :=
 ⟨I.ok.frames,I.ok.mod,I.bs,fP I.ok.tq I.sz,I.stack,I.Us,I.aS,I.bare⟩
theorem Inv.after{Q:VK}{u:Value}(I:Inv X pins σ H s)(h:CE X.stack X.prog X.w H s Q u s'):EP X pins σ Q u s':=by obtain⟨v,H',os,bare,un,aS,r,q⟩:=h;obtain⟨hh,g,d,t,UJ⟩:=s';obtain rfl:UJ=s.os:=os;exact⟨v,H',I.call (h':=hh) (g':=g) (d':=d) (t':=t) (ch:=[]) un aS bare (λb z=>absurd z (by simp)),r,q⟩
end
def Mb(sp:Sp)(CM:List V)(E:XK)(t:TA):TE:=λσ H Q=>t σ H λvs H1=>sp (vs++CM) H1 Q E
def Binds(K:PySem.W.Frag)(fd:FuncData)(ps:List Str)(ds:List Value):Prop :=
 ∀ (s:Shared) (us:List Value),K.In s.heap->(us++ds).length=ps.length->BindsTo s fd ⟨us,[]⟩ (ps.zip (us++ds))
theorem Binds.all{K:PySem.W.Frag}{fd:FuncData}{ps:List Str}(h:∀ us:List Value,us.length=ps.length->bindArgs fd ⟨us,[]⟩=pure (ps.zip us)):Binds K fd ps []:=λs us _ hl=>by rw[og] at hl ⊢;exact .of_eq (h us hl)
def Passes(CX:x3)(X:Cx)(E:XK):Prop:=∀ (pins:List (Addr × Obj)) (σ:St) (H:Hp) (s:Shared) (e:Value) (s':Shared),Inv X pins σ H s->CX X.stack H s E e s'->X.xe e s'
section
variable {X:Cx}{CX:x3}{k:Nat}{f:Addr}{fd:FuncData}{ps:List Str}{sp:Sp}{CM:List V}{ds:List Value}{E:XK}{x:Str}{p pos:Pos}{e:Expr}{es:List Expr}{t:TA}
theorem hJ'{pins:List (Addr × Obj)}{σ:St}{H:Hp}{s:Shared}{Q:VK}{us:List Value}{vs:List V}(F:fi X.prog X.w X.K X.mg X.base CX k f fd ps sp)(hr:gI k X.A)(hb:Binds X.K fd ps ds)(hd:Vals CM ds)(hx:Passes CX X E)(I:Inv X pins σ H s) (r:Vals vs us) (h:sp (vs++CM) H Q E):wpAny (model X.prog X.w) X.A (call (.ref f) us) (EP X pins σ Q) X.xe s:=by
 have r2:Vals (vs++CM) (us++ds):=r.append hd;have hl:(us++ds).length=ps.length:=by rw[<- r2.length];exact F.len _ _ _ _ h
 refine wpAny_call (codeAny_mono (F.run X.A X.stack s H ⟨us,[]⟩ (us++ds) (vs++CM) Q E hr I.hI' (hb s us I.kc hl) r2 h) λr s' hq=>?_)
 cases r with
 |error e=>exact hx pins σ H s e s' I hq
 |ok fl =>
  cases fl with
  |ret u=>exact I.after hq
  |next=>exact False.elim hq
  |brk=>exact False.elim hq
  |cont=>exact False.elim hq
theorem bM'(F:fi X.prog X.w X.K X.mg X.base CX k f fd ps sp)(hr:gI k X.A)(hg:Gl X x)(hm:X.mg x=some (.ref f))(hk:PySem.W.keepIn X.K (.ref f)=true)(hb:Binds X.K fd ps ds)(hd:Vals CM ds)(hx:Passes CX X E)(ha:PA X (e :: es) t) (g7:(x == ("__debug__" : Str))=false:=by decide) (he:starEach (e :: es) X.env=(false,eval e X.env) :: starEach es X.env:=by rfl) (hZ:(backTo pos (starEach es X.env)).any (·.1)=false:=by rfl) :
  PE X (.Call (.Name x p) (e :: es) [] pos) (Mb sp CM E t):=by
 walk_at"x";refine wpAny_Call_Name_kw (R1 I hg hm ?_ g7);refine PySem.W.callWith_K (h₀:=X.base) I.ok.mod.RQ hk (bX (ha pos pins s σ H _ I h) λus s1 b6=>L2.fe b6 λvs H1 I1 r q=>⟨I1.kc,?_⟩) he hZ;exact hJ' F hr hb hd hx I1 r q
end
structure gL(N P:List Str)(sc:Scope):Prop where
 kind:sc.kind=.function
 co:sc.isCoroutine=false
 gen:sc.isGenerator=false
 nd:N.Nodup
 pre:N.take P.length=P
 par:∀ x∈P,sc.names.lookup x=some .local\/sc.names.lookup x=some .cell
 hK':∀ y∈sc.names,y.2≠.free
theorem bN'{kindOf:Str->Option NameKind}{x:Str}:∀ {binds:List (Str × Value)} {m:Str->Option Value},(∀ v,(x,v)∉binds)->bindL kindOf binds m x=m x
 |[],_,_=>rfl
 | (n,v) :: r,m,h=>by
  unfold bindL;rw[bN' λw hw=>h w (cK _ hw)];split
  ·have:x≠n:=by rintro rfl;exact h v dv
   simp[this]
  ·rfl
theorem bO'{kindOf:Str->Option NameKind}{x:Str}:∀ {binds:List (Str × Value)} {m:Str->Option Value},(∀ v,(x,v)∉binds)->bindC kindOf binds m x=m x
 |[],_,_=>rfl
 | (n,v) :: r,m,h=>by
  unfold bindC;rw[bO' λw hw=>h w (cK _ hw)];split
  ·rfl
  ·have:x≠n:=by rintro rfl;exact h v dv
   simp[this]
theorem bP'{kindOf:Str->Option NameKind}{x:Str}{v:Value}:∀ {P:List Str} {vs:List Value} {i:Nat} {m:Str->Option Value},P.Nodup->P[i]? = some x->vs[i]? = some v->kindOf x=some .local ->
  bindL kindOf (P.zip vs) m x=some v
 |[],_,_,_,_,h,_,_=>by simp at h
 |_ :: _,[],_,_,_,_,h,_=>by simp at h
 |p :: P,w :: vs,0,m,nd,h1,h2,hk=>by simp at h1 h2;subst h1;subst h2;show bindL kindOf ((p,w) :: P.zip vs) m p=_;unfold bindL;rw[bN' λv hv=>(ny.mp nd).1 (List.of_mem_zip hv).1,if_pos hk];simp
 |p :: P,w :: vs,i+1,m,nd,h1,h2,hk=>by show bindL kindOf ((p,w) :: P.zip vs) m x=_;unfold bindL;exact bP' (i:=i) (ny.mp nd).2 (by simpa using h1) (by simpa using h2) hk
theorem bQ'{kindOf:Str->Option NameKind}{x:Str}{v:Value}:∀ {P:List Str} {vs:List Value} {i:Nat} {m:Str->Option Value},P.Nodup->P[i]? = some x->vs[i]? = some v->kindOf x≠some .local ->
  bindC kindOf (P.zip vs) m x=some v
 |[],_,_,_,_,h,_,_=>by simp at h
 |_ :: _,[],_,_,_,_,h,_=>by simp at h
 |p :: P,w :: vs,0,m,nd,h1,h2,hk=>by simp at h1 h2;subst h1;subst h2;show bindC kindOf ((p,w) :: P.zip vs) m p=_;unfold bindC;rw[bO' λv hv=>(ny.mp nd).1 (List.of_mem_zip hv).1,if_neg hk];simp
 |p :: P,w :: vs,i+1,m,nd,h1,h2,hk=>by show bindC kindOf ((p,w) :: P.zip vs) m x=_;unfold bindC;exact bQ' (i:=i) (ny.mp nd).2 (by simpa using h1) (by simpa using h2) hk
def start(N:List Str)(vs:List V):St:=vs.map some++List.replicate (N.length-vs.length) none
def kD(CX:x3)(P:Program)(w:World)(K:PySem.W.Frag)(mg:Str->Option Value)(base:Heap)(N:List Str)(qual:Str)(scope:Scope)(f:Addr)(cd:Value)(A:Around)(outer:List Env)(s:Shared)(H:Hp)(E:XK):Cx where
 prog:=P
 w:=w
 K:=K
 mg:=mg
 base:=base
 A:=A.deeper (envOfC qual scope s.heap.objs.size f cd)
 N:=N
 df:=s
 qf:=H
 env:=envOfC qual scope s.heap.objs.size f cd
 outer:=outer
 stack:=envOfC qual scope s.heap.objs.size f cd :: outer
 ex:=[]
 calm:=true
 fn:=λ_=>true
 pn:=[]
 xe:=λe s'=>wpAny (model P w) (A.deeper (envOfC qual scope s.heap.objs.size f cd)) (leaving (envOfC qual scope s.heap.objs.size f cd) e) (λ_ CY=>CX outer H s E e CY) (λe' CY=>CX outer H s E e' CY) s'
theorem bR'{sc:Scope}{n:Nat}{x:Str}(h:sc.names.lookup x=some .cell):∃ c,(cellsFrom n sc.names []).lookup x=some c:=by have q:=PySem.W.cellsFrom_some sc.names n [] (.inl h);exact Option.isSome_iff_exists.mp q
theorem hL'{CX:x3}{P:Program}{w:World}{K:PySem.W.Frag}{mg:Str->Option Value}{base:Heap}{N ps:List Str}{qual:Str}{scope:Scope}{f:Addr}{cd:Value}{A:Around}{outer:List Env}{s s1:Shared}{H:Hp}{E:XK}{us:List Value}{vs:List V}(S:gL N ps scope) (hd:A.handled=none) (e0:R6 P w K mg base A outer s H) (hl:vs.length=ps.length) (r:Vals vs us)(x:InCallC s s.heap.objs.size (bindL (envOfC qual scope s.heap.objs.size f cd).kindOf (ps.zip us) λ_=>none) (cellsFrom (s.heap.objs.size+1) scope.names []) (bindC (envOfC qual scope s.heap.objs.size f cd).kindOf (ps.zip us) λ_=>none) s1) :
  Inv (kD CX P w K mg base N qual scope f cd A outer s H E) [] (start N vs) H s1:=by
 have hZ:ps.length<=N.length:=by have:=congrArg List.length S.pre;rw[nv] at this;lia
 obtain⟨h1,tk,rfl,hk⟩:=x.done;have Mk:∀ b:Addr,b∉(kD CX P w K mg base N qual scope f cd A outer s H E).ex:=λb z=>absurd (show b∈([]:List Addr) from z) (by simp);refine⟨⟨e0.mod,S.kind,rfl,rfl,bE _,λy z c h1 h2=>?_,λy hy=>?_,λy c _ h=>?_,λ_=>hd,Around.frames_deeper e0.frames,.inr ⟨rfl,rfl⟩,λb z=>absurd z (Mk b),e0.bs,e0.tq,λb _ _=>Mk b,λb z=>absurd z (Mk b),e0.qh,e0.xE⟩,
  rfl,e0.bare,Un.kept hk,⟨_,x.toInCall.ns,λi y v h1 h2 h3=>?_⟩,λy c h=>⟨_,x.cell y c h⟩,e0.aS.fresh (bE _),λy c h=>?_,λp hp=>absurd (show p∈([]:List (Addr × Obj)) from hp) (by simp),e0.aS.kept hk,?_⟩
 ·exact name_of_addr x.apart (PySem.mem_of_lookup h1) (PySem.mem_of_lookup h2)
 ·have hy:scope.names.lookup y=some .cell\/scope.names.lookup y=some .free:=hy;rcases hy with hy|hy
  ·exact bR' hy
  ·exact absurd rfl (S.hK' _ (PySem.mem_of_lookup hy))
 ·exact ky (x.above y c (PySem.mem_of_lookup h))
 ·have hi:i<vs.length:=by
   unfold start at h2;by_cases hi:i<vs.length
   ·exact hi
   ·rw[vF (by simpa using hi)] at h2;rw[KG] at h2;split at h2<;>cases h2
  have ha:vs[i]? = some v:=by
   unfold start at h2;rw[BQ (by simpa using hi),lI] at h2
   cases e:vs[i]? with
   |none=>rw[e] at h2;cases h2
   |some a=>rw[e] at h2;cases h2;rfl
  obtain⟨u,hu,rv⟩:=r.get ha;have hp:ps[i]? = some y:=by rw[<- S.pre,List.getElem?_take_of_lt (by lia)];exact h1
  have ndP:ps.Nodup:=by rw[<- S.pre];exact S.nd.sublist (List.take_sublist _ _)
  refine⟨u,rv,?_⟩;rcases S.par y (rp hp) with k|k
  ·exact .inl ⟨k,bP' ndP hp hu k⟩
  ·obtain⟨c,e⟩:=bR' (n:=s.heap.objs.size+1) k;refine .inr ⟨.inl k,c,e,?_⟩;have q:=x.cell y c e;rw[bQ' ndP hp hu (by show scope.names.lookup y≠_;rw[k];decide)] at q;exact q
 ·exact e0.aS.fresh (ky (x.above y c (PySem.mem_of_lookup h)))
 ·unfold start;show _=N.length;rw[kK,cE,KS];lia
theorem bT'{CX:x3}{P:Program}{w:World}{K:PySem.W.Frag}{mg:Str->Option Value}{base:Heap}{k:Nat}{f:Addr}{name qual:Str}{params:Arguments}{body:List Stmt}{scope:Scope}{dV kV doc pm bT ct oc:Value}{an od:Option Addr}{AU:Array (Option Value)} {N ps:List Str} {sp:Sp} (lk:K.lookup f=some ⟨oc,od,.func (PySem.W.fnOf name qual params body scope dV kV doc pm an bT ct),AU⟩) (oS:PySem.W.codeIn K bT qual=true) (S:gL N ps scope)(len:∀ vs H Q E,sp vs H Q E->vs.length=ps.length)(AV:∀ (A:Around) (outer:List Env) (s:Shared) (H:Hp) (vs:List V) (Q:VK) (E:XK),gI k (A.deeper (envOfC qual scope s.heap.objs.size f bT))->sp vs H Q E ->
   ∃ t,oo (kD CX P w K mg base N qual scope f bT A outer s H E) body t/\t { nx:=λ_ H'=>Q .non H',rt:=Q } (start N vs) H) :
  fi P w K mg base CX (k+1) f (PySem.W.fnOf name qual params body scope dV kV doc pm an bT ct) ps sp:=by
 refine⟨len,λA outer s H args us vs Q E hr e0 hb r zo=>?_⟩;have hl:=len _ _ _ _ zo;have KX:K.In s.heap:=e0.mod.RQ.keeps λb o e=>(e0.bs b o e).1;have lim:s.heap.NoLimit:=e0.mod.nolimit.keeps λb o e=>(e0.bs b o e).1;have hN':∀ y∈ps.zip us,scope.names.lookup y.1=some .local\/(scope.names.lookup y.1=some .cell/\((cellsFrom (s.heap.objs.size+1) scope.names []).lookup y.1).isSome=true):=λ⟨n,v⟩ hy=>by
  rcases S.par n (List.of_mem_zip hy).1 with q|q
  ·exact .inl q
  ·exact .inr ⟨q,PySem.W.cellsFrom_some _ _ _ (.inl q)⟩
 refine codeAny_call_function hr.depth (KX _ _ lk) rfl S.co S.gen rfl (PySem.W.codeRec_of KX oS) (hb _ _ _ _ ?_);refine wpAny_newFunctionEnv_cells S.kind hN' λenv he s1 x=>?_;subst he;refine⟨lim.keeps x.toInCall.keep,codeAny_func ?_⟩;obtain⟨t,ht,hq⟩:=AV A outer s H vs Q E (hr.deeper _) zo;have I:Inv (kD CX P w K mg base N qual scope f bT A outer s H E) [] (start N vs) H s1:=hL' S hr.hd e0 hl r x;refine rj (ht [] s1 (start N vs) H _ I hq) (λfl s' hs=>?_) λe s' hs=>hs;have fin:∀ {bq:St} {H':Hp} {v:V} {u:Value},Inv (kD CX P w K mg base N qual scope f bT A outer s H E) [] bq H' s'->RelV v u->Q v H'->CE outer P w H s Q u s' :=
  λ{bq H' v u} J rv q=>⟨v,H',J.os,J.bare,J.base,J.aS,rv,q⟩
 cases fl with
 |ret u =>obtain⟨v,bq,H',J,rv,q⟩:=hs;exact fin J rv q
 |next =>obtain⟨bq,H',J,q⟩:=hs;exact fin (v:=V.non) (u:=Value.none) J rfl q
 |brk =>obtain⟨_,_,_,q⟩:=hs;exact False.elim q
 |cont =>obtain⟨_,_,_,q⟩:=hs;exact False.elim q
section
variable {X:Cx}{x:Str}{p pos:Pos}{e:Expr}{es:List Expr}{t:TA}{id T:String}{r:List V->Hp->VK->Prop}
def UK(r:List V->Hp->VK->Prop)(t:TA):TE:=λσ H Q=>t σ H λvs H1=>r vs H1 Q
theorem R7 (hc:i9 X (.builtin id) r) (hg:Gl X x) (hm:X.mg x=none) (hv:bootBuiltins x=some (.builtin id)) (ha:PA X (e :: es) t) (hn:x ≠ "__name__" := by decide) (g7:(x == ("__debug__" : Str))=false:=by decide) (he:starEach (e :: es) X.env=(false,eval e X.env) :: starEach es X.env:=by rfl) (hZ:(backTo pos (starEach es X.env)).any (·.1)=false:=by rfl):PE X (.Call (.Name x p) (e :: es) [] pos) (UK r t):=by
 walk_at"x";refine wpAny_Call_Name_kw (CB I hg hm hv ?_ hn g7);exact PyProof.Rows.callWith_builtin1 (bX (ha pos pins s σ H _ I h) λus s1 b6=>L2.fe b6 λvs H1 I1 r1 q1=>hc pins s1 σ H1 vs us Q I1 r1 q1) he hZ
theorem hO' (hc:i9 X (.type T) r) (hg:Gl X x) (hm:X.mg x=none) (hv:bootBuiltins x=some (.type T)) (ha:PA X (e :: es) t) (hn:x ≠ "__name__" := by decide) (g7:(x == ("__debug__" : Str))=false:=by decide) (he:starEach (e :: es) X.env=(false,eval e X.env) :: starEach es X.env:=by rfl) (hZ:(backTo pos (starEach es X.env)).any (·.1)=false:=by rfl):PE X (.Call (.Name x p) (e :: es) [] pos) (UK r t):=by
 walk_at"x";refine wpAny_Call_Name_kw (CB I hg hm hv ?_ hn g7);exact PyProof.Rows.callWith_type1 (bX (ha pos pins s σ H _ I h) λus s1 b6=>L2.fe b6 λvs H1 I1 r1 q1=>hc pins s1 σ H1 vs us Q I1 r1 q1) he hZ
end
end L2
namespace HT
open PySem PyProof.Rows
section
open PySem.SeqAt
open PySem.AutoSeq1 (wpAny_loadPart')
open PySem.MeetsSeq PySem.MeetsSeq2 PySem.MeetsSeq3
end
section
variable {prog:Program}{w:World}{A:Around}{E:Value->Shared->Prop}{s:Shared}
theorem hQ'{t b:Addr}{vs ws:List Value}{Q:Value->Shared->Prop}(ht:IsTup s.heap t vs.toArray)(hb:IsTup s.heap b ws.toArray)(hv:vs≠[])(h1:ws=[]->Q (.ref t) s) (h2:ws≠[]->Q (.ref s.heap.objs.size) { s with heap:=s.heap.push { cls:=.type "tuple",data:=.seq (vs++ws).toArray } }) (hsz:vs.length+ws.length<=sizeLine):wpAny (model prog w) A (binaryOp .Add (.ref t) (.ref b)) Q E s:=by
 obtain⟨⟨cls,dd,data,sl⟩,ho,hc,n,hd⟩:=id ht;obtain⟨⟨hR',R8,data2,R9⟩,tI,AW,n2,hd2⟩:=id hb;simp only at hc hd AW hd2;subst hc hd AW hd2;have e:vs.toArray++ws.toArray=(vs++ws).toArray:=by simp
 by_cases hw:ws=[]
 ·exact concat_meets ⟨_,ho,rfl⟩ ⟨_,tI,rfl⟩ noFill_tuple_add seq_tuple_add PySem.F.slot_tuple_add PySem.F.entry_tuple_add (PySem.F.args_tuple_add_2 _ _) (tuple_addW1 t b vs.toArray ws.toArray n n2 dd R8 sl R9 (by simpa using hv) (by simp[hw])) ⟨ho,tI,h1 hw⟩
 ·refine concat_meets ⟨_,ho,rfl⟩ ⟨_,tI,rfl⟩ noFill_tuple_add seq_tuple_add PySem.F.slot_tuple_add PySem.F.entry_tuple_add (PySem.F.args_tuple_add_2 _ _) (tuple_addW2 t b vs.toArray ws.toArray n n2 dd R8 sl R9 (by simpa using hv) (by simpa using hw) (by rw[i5,i5];exact hsz)) ⟨ho,tI,?_⟩
  rw[e];exact h2 hw
def bI(n d:Nat):Option Int->Nat
 |none=>d
 |some v=>if v<0 then (v+(n:Int)).toNat else min v.toNat n
theorem hT'(n d:Nat)(hd:d<=n)(o:Option Int):bI n d o<=n:=by
 cases o with
 |none=>exact hd
 |some v =>
  show(if v<0 then (v+(n:Int)).toNat else min v.toNat n)<=n;by_cases hv:v<0
  ·rw[if_pos hv];lia
  ·rw[if_neg hv];exact Nat.min_le_right _ _
theorem bU'(v:Int)(n d:Nat):(if v<0 then max (v+(n:Int)) 0 else min v (n:Int))=((bI n d (some v):Nat):Int):=by
 show(if v<0 then max (v+(n:Int)) 0 else min v (n:Int))=(((if v<0 then (v+(n:Int)).toNat else min v.toNat n):Nat):Int)
 by_cases hv:v<0
 ·simp only[if_pos hv];lia
 ·simp only[if_neg hv];lia
theorem hU'(lo hi:Option Int)(n:Nat):Builtin.Slice.sliceAdjust lo hi 1 (n:Int)=(((bI n 0 lo:Nat):Int),((bI n n hi:Nat):Int)):=by
 have h1:¬ ((1:Int)<0):=by decide
 unfold Builtin.Slice.sliceAdjust;simp only[h1,if_false];refine Prod.ext ?_ ?_
 ·cases lo with
  |none=>rfl
  |some v=>exact bU' v n 0
 ·cases hi with
  |none=>rfl
  |some v=>exact bU' v n n
theorem hV'(i j:Nat):Builtin.Slice.slicePlaces (i:Int) (j:Int) 1=j-i:=by
 unfold Builtin.Slice.slicePlaces;have h1:(1:Int)>0:=by exact wm _
 simp only[h1,if_true,Int.ediv_one];split<;>lia
theorem bV'{v:Value}{o:Option Int}{Q:Option Int->Shared->Prop}(p:IsPart v o)(h:Q o s):wpAny (model prog w) A (Builtin.Slice.slicePartIndex v) Q E s:=by
 cases p with
 |none=>exact slicePart_none h
 |int i t=>exact slicePart_int h
theorem hW'{sl:Addr}{vl vu:Value}{lo hi:Option Int}{n:Nat}{Q:Int × Int × Nat->Shared->Prop}(hs:s.heap.IsSliceOf sl vl vu .none)(pl:IsPart vl lo)(pu:IsPart vu hi)(h:Q (((bI n 0 lo:Nat):Int),1,bI n n hi-bI n 0 lo) s):wpAny (model prog w) A (Builtin.Slice.sliceApplied (.ref sl) (pure (n:Int))) Q E s:=by
 obtain⟨os,My,mI,R_⟩:=id hs;unfold Builtin.Slice.sliceApplied Builtin.Slice.sliceFields;refine ai (ai (wpAny_field My R_ (x:=vl) rfl (ai (wpAny_field My R_ (x:=vu) rfl (ai (wpAny_field My R_ (x:=.none) rfl (aE ?_)))))));refine ai (slicePart_none ?_);show wpAny _ _ (if ((1:Int) == 0)=true then _ else _) _ _ s;rw[if_neg (by decide)];refine ai (bV' pl (ai (bV' pu (ai (aE ?_)))));show wpAny _ _ (match Builtin.Slice.sliceAdjust lo hi 1 (n:Int) with|(lo,hi)=>pure (lo,(1:Int),Builtin.Slice.slicePlaces lo hi 1)) _ _ s;rw[hU' lo hi n];show wpAny _ _ (pure (((bI n 0 lo:Nat):Int),(1:Int),Builtin.Slice.slicePlaces ((bI n 0 lo:Nat):Int) ((bI n n hi:Nat):Int) 1)) _ _ s;rw[hV'];exact aE h
theorem hX'(xs:Array Value)(i k:Nat):((List.range k).filterMap λ(m:Nat)=>xs[((i:Int)+(m:Int)*1).toNat]?).toArray=((xs.toList.drop i).take k).toArray:=by
 have e:(λ(m:Nat)=>xs[((i:Int)+(m:Int)*1).toNat]?)=λm=>xs[i+m]? := by
  funext m;have:((i:Int)+(m:Int)*1).toNat=i+m:=by exact(Ee ..).symm
  rw[this]
 rw[e];have:=pick_run xs i k;rw[Uc] at this;have e2:((λx=>xs[x]?) ∘ λx=>i+x)=λm=>xs[i+m]? := rfl;rw[e2] at this;rw[this]
theorem hY'{t sl:Addr}{items:Array Value}{vl vu:Value}{lo hi:Option Int}{Q:Value->Shared->Prop}(ht:IsTup s.heap t items)(hs:s.heap.IsSliceOf sl vl vu .none)(pl:IsPart vl lo)(pu:IsPart vu hi)(hw:¬ (bI items.size 0 lo=0/\bI items.size items.size hi=items.size))(h:Q (.ref s.heap.objs.size) { s with heap:=s.heap.push { cls:=.type "tuple",data:=.seq ((items.toList.drop (bI items.size 0 lo)).take (bI items.size items.size hi-bI items.size 0 lo)).toArray } }) (hsz:items.size<=sizeLine):wpAny (model prog w) A (getItem (.ref t) (.ref sl)) Q E s:=by
 have Sb:sizeOk (.seq ((items.toList.drop (bI items.size 0 lo)).take (bI items.size items.size hi-bI items.size 0 lo)).toArray):=by show((items.toList.drop (bI items.size 0 lo)).take (bI items.size items.size hi-bI items.size 0 lo)).toArray.size<=sizeLine;rw[i5,nv,AH,xC];lia
 have hj:bI items.size items.size hi<=items.size:=hT' _ _ (bE _) hi;obtain⟨os,My,mI,R_⟩:=id hs;have hTs:s.TypeIs (.ref sl) "slice" := ⟨os,My,mI⟩
 unfold getItem;try with_reducible refine wpAny_holding ?_
 first|refine ai (aE ?_)|skip
 refine ai (wpAny_sequenceKey ht.typeIs (by decide) ?_);refine ai (wpAny_callSpecial?_slot (name:=Str.ofString "__getitem__") ht.typeIs PyProof.Rows.slot_tuple_getitem (wpAny_call_entry PyProof.Rows.slot_tuple_getitem ht.typeIs entry_tuple_getitem ?_ (args_tuple_getitem _ _)))
 show wpAny _ _ (Builtin.Tuple.tupleItemsOf (.ref t) >>= _) _ _ s;refine ai (tupleItemsOf_ ht ?_);refine ai (wpAny_typeOf hTs ?_);rw[if_pos (by decide)];refine ai (hW' hs pl pu ?_);have Dp:¬ ((((bI items.size 0 lo:Nat):Int) == 0 && (1:Int) == 1 && (bI items.size items.size hi-bI items.size 0 lo) == items.size)=true):=by intro q;rw[i7,i7] at q;have q1:((bI items.size 0 lo:Nat):Int)=0:=eq_of_beq q.1.1;have q2:bI items.size items.size hi-bI items.size 0 lo=items.size:=eq_of_beq q.2;exact hw ⟨by lia,by lia⟩
 show wpAny _ _ (if (((bI items.size 0 lo:Nat):Int) == 0 && (1:Int) == 1 && (bI items.size items.size hi-bI items.size 0 lo) == items.size)=true then _ else _) _ _ s;rw[if_neg Dp,hX'];first
  |exact ai (m:=Builtin.Tuple.tupleExact _) (wpAny_newObj_type (aE ⟨_,rfl,aE h⟩) Sb)
  |exact ai (m:=Builtin.Tuple.tupleExact _) (wpAny_newObj_type (ai (aE (aE ⟨_,rfl,aE h⟩))) Sb)
  |exact ai (ai (m:=Builtin.Tuple.tupleExact _) (wpAny_newObj_type (aE (aE ⟨_,rfl,aE h⟩)) Sb))
  |exact ai (ai (m:=Builtin.Tuple.tupleExact _) (wpAny_newObj_type (aE ⟨_,rfl,aE h⟩) Sb))
end
end HT
namespace L2
open PySem PySem.Spec PyProof.Rows
abbrev TO:=St->Hp->(Option Int->Hp->Prop)->Prop
def PO(X:Cx)(e:Option Expr)(t:TO):Prop :=
 ∀ (pins:List (Addr × Obj)) (s:Shared) (σ:St) (H:Hp) (Q:Option Int->Hp->Prop),Inv X pins σ H s->t σ H Q ->
  wpAny (model X.prog X.w) X.A (evalPart e X.env) (λu s'=>∃ o H',Inv X pins σ H' s'/\IsPart u o/\Q o H') X.xe s
def ic':TO:=λ_ H Q=>Q none H
def ie'(t:TE):TO:=λσ H Q=>t σ H λx H1=>∃ i,x=.int i/\Q (some i) H1
section
variable {X:Cx}{e:Expr}{te:TE}{lo hi:Option Expr}{tl th:TO}{pos p2:Pos}
theorem ig':PO X none ic':=by intro pins s σ H Q I h;rw[evalPart_none];exact aE ⟨none,H,I,.none,h⟩
theorem ih'(h:PE X e te):PO X (some e) (ie' te):=by intro pins s σ H Q I hw;rw[evalPart_some];refine bX (h pins s σ H _ I hw) λu s1 b6=>L2.fe b6 λx H1 I1 r1 q1=>?_;obtain⟨i,rfl,q⟩:=q1;obtain⟨t,rfl⟩:=r1;exact⟨some i,H1,I1,.int i t,q⟩
def He(X:Cx)(r:V->Option Int->Option Int->Hp->VK->Prop):Prop :=
 ∀ (pins:List (Addr × Obj)) (s:Shared) (σ:St) (H:Hp) (x:V) (v vl vu:Value) (lo hi:Option Int) (sl:Addr) (Q:VK),Inv X pins σ H s->RelV x v->s.heap.IsSliceOf sl vl vu .none->IsPart vl lo->IsPart vu hi->r x lo hi H Q ->
  ∃ T id,typeLookup (.type T) "__getitem__" = pure (some (.builtin id))/\s.TypeIs v T/\wpAny (model X.prog X.w) X.A (getItem v (.ref sl)) (EP X pins σ Q) X.xe s
def tSl(r:V->Option Int->Option Int->Hp->VK->Prop)(te:TE)(tl th:TO):TE:=λσ H Q=>te σ H λx H1=>tl σ H1 λl H2=>th σ H2 λu H3=>r x l u H3 Q
theorem ij'{r:V->Option Int->Option Int->Hp->VK->Prop}(hr:He X r)(he:PE X e te)(hl:PO X lo tl)(hu:PO X hi th):PE X (.Subscript e (.Slice lo hi none p2) pos) (tSl r te tl th):=by intro pins s σ H Q I h;refine Subscript_ (bX (he pins s σ H _ I h) λv s1 b6=>L2.fe b6 λx H1 I1 r1 q1=>?_);refine wpAny_Slice (bX (hl pins s1 σ H1 _ I1 q1) λvl s2 b6=>L2.fe b6 λl H2 I2 pl q2=>bX (hu pins s2 σ H2 _ I2 q2) λvu s3 b6=>L2.fe b6 λu H3 I3 pu q3=>?_);rw[evalPart_none];refine aE ?_;have I4:Inv X pins σ H3 { s3 with heap:=s3.heap.push { cls:=.type "slice",data:=.fields #[vl,vu,.none] } }:=I3.kept (t':=s3.toks) λb ob q=>dA _ q;obtain⟨T,id,hT,ht,hg⟩:=hr pins { s3 with heap:=s3.heap.push { cls:=.type "slice",data:=.fields #[vl,vu,.none] } } σ H3 x v vl vu l u s3.heap.objs.size Q I4 r1 (Heap.IsSliceOf.new ..) pl pu q3;show wpAny (model X.prog X.w) X.A (subscriptTail e (.Slice lo hi none p2) v (.ref s3.heap.objs.size)) (EP X pins σ Q) X.xe { s3 with heap:=s3.heap.push { cls:=.type "slice",data:=.fields #[vl,vu,.none] } };exact tail_any (ops:=[.ref s3.heap.objs.size,v]) ht hT hg (by with_unfolding_all rfl)
def AX(xs:List V)(lo hi:Option Int):List V:=(xs.drop (HT.bI xs.length 0 lo)).take (HT.bI xs.length xs.length hi-HT.bI xs.length 0 lo)
theorem bW'(xs:List V)(lo hi:Option Int):(AX xs lo hi).length<=xs.length:=by unfold AX;rw[nv,AH];lia
def bX'(K:PySem.W.Frag):V->Option Int->Option Int->Hp->VK->Prop:=λx lo hi H Q=>∃ a xs,x=.ref a/\ke K H a xs /\
 ¬ (HT.bI xs.length 0 lo=0/\HT.bI xs.length xs.length hi=xs.length)/\∀ p,H p=none->Q (.ref p) (upd H p (.tup (AX xs lo hi)))
theorem ik':He X (bX' X.K):=by
 walk_at"C";obtain⟨a,xs,rfl,hx,hw,q⟩:=h;cases rx;obtain⟨its,r,ht,hz⟩:=I.tuple hx;have hlen:its.toArray.size=xs.length:=by rw[i5];exact r.length.symm
 refine⟨"tuple",_,PyProof.Rows.slot_tuple_getitem.lookup,ht.typeIs,?_⟩;refine HT.hY' ht hs pl pu (by rw[hlen];exact hw) ?_ (by rw[hlen];exact hz);rw[hlen];refine⟨.ref s.heap.objs.size,_,I.laid (t':=s.toks) (o:=.tup (AX xs lo hi)) (λb ob q=>dA _ q) (bE _) ?_,rfl,q _ (I.aS.fresh (bE _))⟩;exact⟨fP (bW' xs lo hi) hz,_,(r.drop (HT.bI xs.length 0 lo)).take (HT.bI xs.length xs.length hi-HT.bI xs.length 0 lo),IsTup.new _ _⟩
def UL(K:PySem.W.Frag):R2:=λx y H Q=>∃ a b xs ys,x=.ref a/\y=.ref b/\ke K H a xs/\ke K H b ys/\xs≠[]/\xs.length+ys.length<=sizeLine /\ (ys=[]->Q (.ref a) H)/\(ys≠[]->∀ p,H p=none->Q (.ref p) (upd H p (.tup (xs++ys))))
theorem Vals.UM{xs:List V}{us:List Value}(r:Vals xs us):us=[]↔xs=[]:=by
 cases r with
 |nil=>simp
 |cons _ _=>simp
theorem il':cx X (binaryOp .Add) (UL X.K):=by intro pins s σ H x y v u Q I rx ry h;obtain⟨a,b,xs,ys,rfl,rfl,ha,hb,hx,hz,q1,q2⟩:=h;cases rx;cases ry;obtain⟨its,r1,p1,_⟩:=I.tuple ha;obtain⟨Sd,r2,p2,_⟩:=I.tuple hb;refine HT.hQ' p1 p2 (λz=>hx (r1.UM.mp z)) (λz=>⟨.ref a,H,I,rfl,q1 (r2.UM.mp z)⟩) (λz=>?_) (by rw[<- r1.length,<- r2.length];exact hz);refine⟨.ref s.heap.objs.size,_,I.laid (t':=s.toks) (o:=.tup (xs++ys)) (λb ob q=>dA _ q) (bE _) ?_,rfl,q2 (λw=>z (r2.UM.mpr w)) _ (I.aS.fresh (bE _))⟩;exact⟨by rw[kK];exact hz,_,r1.append r2,IsTup.new _ _⟩
end
def x4(n:Nat)(i:Int):Option Nat:=if 0<=i then (if i<n then some i.toNat else none) else if -(n:Int)<=i then some (i+n).toNat else none
def fv{α:Type}(xs:List α)(i:Int):Option α:=(x4 xs.length i).bind λj=>xs[j]?
theorem im'{n:Nat}{i:Int}{j:Nat}(h:x4 n i=some j):seqIndex? i n=some j/\j<n/\-(n:Int)<=i/\i<n:=by
 unfold x4 at h;by_cases h0:0<=i
 ·rw[if_pos h0] at h;by_cases h1:i<n
  ·rw[if_pos h1] at h;have e:i.toNat=j:=Option.some.inj h;exact⟨by rw[seqIndex_of h0 h1,e],by lia,by lia,h1⟩
  ·rw[if_neg h1] at h;cases h
 ·rw[if_neg h0] at h;by_cases h1:-(n:Int)<=i
  ·rw[if_pos h1] at h;have e:(i+n).toNat=j:=Option.some.inj h;exact⟨by rw[seqIndex_neg (by exact Int.not_le.mp ‹_›) h1,e],by lia,h1,by lia⟩
  ·rw[if_neg h1] at h;cases h
theorem UN{α:Type}{xs:List α}{i:Int}{v:α}(h:fv xs i=some v):∃ j,seqIndex? i xs.length=some j/\xs[j]? = some v/\j<xs.length/\-(xs.length:Int)<=i/\i<xs.length:=by
 unfold fv at h
 cases e:x4 xs.length i with
 |none=>rw[e] at h;cases h
 |some j =>rw[e] at h;obtain⟨h1,h2,h3,h4⟩:=im' e;exact⟨j,h1,h,h2,h3,h4⟩
theorem Dx{α:Type}{xs:List α}{j:Nat}{v:α}(h:xs[j]? = some v):fv xs (j:Int)=some v:=by
 have hj:j<xs.length:=(pT.mp h).1;have e:x4 xs.length (j:Int)=some j:=by unfold x4;rw[if_pos (by walk_at "s1"),if_pos (by lia)];simp
 unfold fv;rw[e];exact h
def UO(b:Expr):Prop:=∀ o i,subscripted b false o i=operate [o,i] (getItem o i)
def tJ(X:Cx)(r:R2):Prop :=
 ∀ (value slice:Expr) (pins:List (Addr × Obj)) (s:Shared) (σ:St) (H:Hp) (x y:V) (v u:Value) (Q:VK),Inv X pins σ H s->RelV x v->RelV y u->r x y H Q ->
  subscripted slice false v u=operate [v,u] (getItem v u)->wpAny (model X.prog X.w) X.A (subscriptTail value slice v u) (EP X pins σ Q) X.xe s
def HC(X:Cx)(id:String)(r:V->List V->Hp->VK->Prop):Prop :=
 ∀ (pins:List (Addr × Obj)) (s:Shared) (σ:St) (H:Hp) (x:V) (xs:List V) (v:Value) (us:List Value) (Q:VK),Inv X pins σ H s->RelV x v->Vals xs us->r x xs H Q ->
  wpAny (model X.prog X.w) X.A (call (.builtin id) (v :: us)) (EP X pins σ Q) X.xe s
section
variable {X:Cx}{a b:Expr}{ta tb:TE}{pos:Pos}
theorem tJ.or{r r':R2}(h:tJ X r)(h':tJ X r'):tJ X (λx y H Q=>r x y H Q\/r' x y H Q):=by
 intro value slice pins s σ H x y v u Q I rx ry q hs;rcases q with q|q
 ·exact h value slice pins s σ H x y v u Q I rx ry q hs
 ·exact h' value slice pins s σ H x y v u Q I rx ry q hs
theorem bY'{r:R2}(hr:tJ X r)(ha:PE X a ta)(hb:PE X b tb)(hs:UO b):PE X (.Subscript a b pos) (L7 r ta tb):=by intro pins s σ H Q I h;exact Subscript_ (Uz ha hb I h λv u s2 x y H2 I2 rx ry q=>hr a b pins s2 σ H2 x y v u Q I2 rx ry q (hs _ _))
def bZ'(K:PySem.W.Frag):R2:=λx y H Q=>∃ p xs i v,x=.ref p/\y=.int i/\eJ K H p xs/\fv xs i=some v/\Q v H
def ca'(K:PySem.W.Frag):R2:=λx y H Q=>∃ p xs i v,x=.ref p/\y=.int i/\ke K H p xs/\fv xs i=some v/\Q v H
def cb':R2:=λx y H Q=>∃ z i c,x=.str z/\y=.int i/\z.length<=sizeLine/\fv z.cps.toList i=some c/\Q (.str ⟨#[c]⟩) H
theorem io':tJ X (bZ' X.K):=by
 walk_at"H";obtain⟨p,xs,i,z,rfl,rfl,hq,he,q⟩:=h;cases rx;obtain⟨t,rfl⟩:=ry;obtain⟨its,r,pl,hz⟩:=I.list hq;obtain⟨j,h1,h2,h3,h4,h5⟩:=UN he;obtain⟨w,ew,pd⟩:=r.get h2;have hl:=r.length;have hn:=L8;have fin:EP X pins σ Q w s:=⟨z,H,I,pd,q⟩
 by_cases h0:0<=i
 ·have hj:i.toNat=j:=by rw[seqIndex_of h0 h5] at h1;exact Option.some.inj h1
  exact item_listR pl.isList h0 (by lia) (by rw[hj];simpa using ew) fin hs
 ·have hj:(i+(its.toArray.size:Int)).toNat=j:=by rw[seqIndex_neg (by exact Int.not_le.mp ‹_›) h4] at h1;rw[i5,<- hl];exact Option.some.inj h1
  exact subscriptTail_builtinR (x:=w) pl.isList.typeIs slot_list_getitem.lookup (wpAny_getItem_list_neg (Q:=λr s'=>r=w/\EP X pins σ Q r s') pl.isList (by exact Int.not_le.mp ‹_›) (by rw[i5]<;>lia) (by lia) (by rw[hj];simpa using ew) ⟨rfl,fin⟩) hs
theorem ip':tJ X (ca' X.K):=by
 walk_at"H";obtain⟨p,xs,i,z,rfl,rfl,hq,he,q⟩:=h;cases rx;obtain⟨t,rfl⟩:=ry;obtain⟨its,r,pl,hz⟩:=I.tuple hq;obtain⟨j,h1,h2,h3,h4,h5⟩:=UN he;obtain⟨w,ew,pd⟩:=r.get h2;have hl:=r.length;have hn:=L8;have fin:EP X pins σ Q w s:=⟨z,H,I,pd,q⟩
 exact subscriptTail_builtinR (x:=w) pl.typeIs slot_tuple_getitem.lookup (getItem_tuple (j:=j) (Q:=λr s'=>r=w/\EP X pins σ Q r s') pl (by lia) (by lia) (by rw[i5,<- hl];exact h1) (by simpa using ew) ⟨rfl,fin⟩) hs
theorem iq':tJ X cb':=by
 walk_at"H";obtain⟨z,i,c,rfl,rfl,hz,he,q⟩:=h;walk_at"K";walk_at"aW";obtain⟨j,h1,h2,h3,h4,h5⟩:=UN he;have hl:z.cps.toList.length=z.length:=by simp[Str.length]
 rw[hl] at h1 h4 h5;have hn:=L8;exact tail_any (typeIs_str s z t) slot_str_getitem.lookup (getItem_str (c:=c) (by
  have e1:decide (i < -(2 ^ 63:Int))=false:=decide_eq_false (by lia);have e2:decide (i >= 2 ^ 63)=false:=decide_eq_false (by lia);rw[e1,e2,Bool.or_false]) (by rw[h1];simpa using h2) ⟨.str ⟨#[c]⟩,H,I.tok _,⟨_,rfl⟩,q⟩) hs
def rIx(K:PySem.W.Frag):R2:=λx y H Q=>bZ' K x y H Q\/ca' K x y H Q\/cb' x y H Q
theorem is':tJ X (rIx X.K):=io'.or (ip'.or iq')
theorem it'(lo hi:Option Int)(n:Nat):(sliceBounds lo hi none n).1=((HT.bI n 0 lo:Nat):Int)/\(sliceBounds lo hi none n).2.1=((HT.bI n n hi:Nat):Int)/\(sliceBounds lo hi none n).2.2=1:=by
 refine⟨?_,?_,rfl⟩
 ·cases lo with
  |none=>simp[sliceBounds,HT.bI]
  |some i =>
   walk_at"aB";by_cases h:i<0
   ·simp only[h,if_true]<;>lia
   ·simp only[h,if_false]<;>lia
 ·cases hi with
  |none=>simp[sliceBounds,HT.bI]
  |some i =>
   walk_at"aB";by_cases h:i<0
   ·simp only[h,if_true]<;>lia
   ·simp only[h,if_false]<;>lia
theorem iu'(its:List Value)(lo hi:Option Int):slicePick its.toArray lo hi none=((its.drop (HT.bI its.length 0 lo)).take (HT.bI its.length its.length hi-HT.bI its.length 0 lo)).toArray:=by obtain⟨h1,h2,h3⟩:=it' lo hi its.toArray.size;unfold slicePick;rw[h1,h2,h3];simp only[sliceRange_one,pick_run,i5]<;>rfl
def iw'(K:PySem.W.Frag):V->Option Int->Option Int->Hp->VK->Prop:=λx lo hi H Q=>∃ a xs,x=.ref a/\eJ K H a xs/\∀ p,H p=none->Q (.ref p) (upd H p (.lst (AX xs lo hi)))
theorem ix':He X (iw' X.K):=by intro pins s σ H x v vl vu lo hi sl Q I rx hs pl pu h;obtain⟨a,xs,rfl,hx,q⟩:=h;cases rx;obtain⟨its,r,ht,hz⟩:=I.list hx;have hlen:=r.length;refine⟨"list",_,slot_list_getitem.lookup,ht.isList.typeIs,?_⟩;refine wpAny_getItem_list_slice ht.isList hs pl pu .none (by simp) ?_ (by rw[i5]<;>lia);rw[iu',<- hlen];refine⟨.ref s.heap.objs.size,_,I.laid (t':=s.toks) (o:=.lst (AX xs lo hi)) (λb ob q=>dA _ q) (bE _) ?_,rfl,q _ (I.aS.fresh (bE _))⟩;exact⟨fP (bW' xs lo hi) hz,_,0,(r.drop (HT.bI xs.length 0 lo)).take (HT.bI xs.length xs.length hi-HT.bI xs.length 0 lo),gV _ rfl⟩
def zt:V->Bool
 |.non=>true
 |.bl _=>true
 |.int _=>true
 |.str _=>true
 |_=>false
def AY:V->V->Bool
 |.non,.non=>true
 |.bl a,.bl b=>a == b
 |.bl a,.int b=>(if a then 1 else 0) == b
 |.int a,.bl b=>a == (if b then 1 else 0)
 |.int a,.int b=>a == b
 |.str a,.str b=>a == b
 |_,_=>false
theorem iy'{A:Around}{s:Shared}{y x:V}{u v:Value}(ry:RelV y u)(rx:RelV x v)(fy:zt y=true)(fx:zt x=true):SeqAt.EqAt A s u v (AY y x):=by
 cases y with
 |non =>
  cases ry
  cases x with
  |non=>cases rx;exact SeqAt.EqAt.same _
  |bl b=>cases rx;exact SeqAt.EqAt.none_bool b
  |int b=>obtain⟨t,rfl⟩:=rx;exact SeqAt.EqAt.none_int b t
  |str b=>obtain⟨t,rfl⟩:=rx;exact SeqAt.EqAt.none_str b t
  |_=>exact absurd (show false=true from fx) hU
 |bl a =>
  cases ry
  cases x with
  |non=>cases rx;exact SeqAt.EqAt.bool_none a
  |bl b=>cases rx;exact SeqAt.EqAt.bool_bool a b
  |int b=>obtain⟨t,rfl⟩:=rx;exact SeqAt.EqAt.bool_int a b t
  |str b=>obtain⟨t,rfl⟩:=rx;exact SeqAt.EqAt.bool_str a b t
  |_=>exact absurd (show false=true from fx) hU
 |int a =>
  walk_at"aW"
  cases x with
  |non=>cases rx;exact SeqAt.EqAt.int_none a t'
  |bl b=>cases rx;exact SeqAt.EqAt.int_bool a t' b
  |int b=>obtain⟨t,rfl⟩:=rx;exact SeqAt.EqAt.int_int a t' b t
  |str b=>obtain⟨t,rfl⟩:=rx;exact SeqAt.EqAt.int_str a t' b t
  |_=>exact absurd (show false=true from fx) hU
 |str a =>
  walk_at"aW"
  cases x with
  |non=>cases rx;exact SeqAt.EqAt.str_none a t'
  |bl b=>cases rx;exact SeqAt.EqAt.str_bool a t' b
  |int b=>obtain⟨t,rfl⟩:=rx;exact SeqAt.EqAt.str_int a t' b t
  |str b=>obtain⟨t,rfl⟩:=rx;exact SeqAt.EqAt.str_str a t' b t
  |_=>exact absurd (show false=true from fx) hU
 |_=>exact absurd (show false=true from fy) hU
def rV(x:V)(u:Value):Bool:=match u with
 |.none=>AY .non x
 |.bool b=>AY (.bl b) x
 |.int i _=>AY (.int i) x
 |.str z _=>AY (.str z) x
 |_=>false
theorem cc'{x y:V}{u:Value}(r:RelV y u)(f:zt y=true):rV x u=AY y x:=by
 cases y with
 |non=>cases r;rfl
 |bl b=>cases r;rfl
 |int i=>obtain⟨t,rfl⟩:=r;rfl
 |str z=>obtain⟨t,rfl⟩:=r;rfl
 |_=>exact absurd (show false=true from f) hU
theorem MA{x:V}:∀ {xs:List V} {us:List Value},Vals xs us->xs.all zt=true->us.any (rV x)=xs.any λy=>AY y x
 |_,_,.nil,_=>rfl
 |y :: xs,u :: us,.cons r t,f=>by rw[B3,i7] at f;rw[B4,B4,cc' r f.1,MA t f.2]
theorem MB{A:Around}{s:Shared}{x:V}{v:Value}(rx:RelV x v)(fx:zt x=true):∀ {xs:List V} {us:List Value},Vals xs us->xs.all zt=true->∀ u∈us,SeqAt.EqAt A s u v (rV x u)
 |_,_,.nil,_=>λu hu=>by cases hu
 |y :: xs,u :: us,.cons r t,f=>λu' hu=>by
  rw[B3,i7] at f;rcases dc.mp hu with rfl|hu
  ·rw[cc' r f.1];exact iy' r rx f.1 fx
  ·exact MB rx fx t f.2 u' hu
def Se(x:V)(xs:List V):Bool:=xs.any λy=>AY y x
def MD(K:PySem.W.Frag)(neg:Bool):R2:=λx y H Q=>∃ p xs,y=.ref p/\(eJ K H p xs\/ke K H p xs)/\zt x=true/\xs.all zt=true/\Q (.bl (if neg then !Se x xs else Se x xs)) H
theorem iz':cx X (compareOp .In) (MD X.K false):=by
 walk_at"e";obtain⟨p,xs,rfl,hq,fx,fs,q⟩:=h;cases ry;rcases hq with hq|hq
 ·obtain⟨its,r,pl,hz⟩:=I.list hq;refine SeqAt.in_listAt (rV x) pl.isList (λw hw=>MB rx fx r fs w (by simpa using hw)) ⟨.bl _,H,I,rfl,?_⟩;walk_at"u";exact q
 ·obtain⟨its,r,pl,hz⟩:=I.tuple hq;refine SeqAt.in_tupleAt (rV x) pl (λw hw=>MB rx fx r fs w (by simpa using hw)) ⟨.bl _,H,I,rfl,?_⟩;walk_at"u";exact q
theorem iA':cx X (compareOp .NotIn) (MD X.K true):=by
 walk_at"e";obtain⟨p,xs,rfl,hq,fx,fs,q⟩:=h;cases ry;rcases hq with hq|hq
 ·obtain⟨its,r,pl,hz⟩:=I.list hq;refine SeqAt.notIn_listAt (rV x) pl.isList (λw hw=>MB rx fx r fs w (by simpa using hw)) ⟨.bl _,H,I,rfl,?_⟩;walk_at"u";exact q
 ·obtain⟨its,r,pl,hz⟩:=I.tuple hq;refine SeqAt.notIn_tupleAt (rV x) pl (λw hw=>MB rx fx r fs w (by simpa using hw)) ⟨.bl _,H,I,rfl,?_⟩;walk_at"u";exact q
theorem i9.or{f:Value}{r r':List V->Hp->VK->Prop}(h:i9 X f r)(h':i9 X f r'):i9 X f (λxs H Q=>r xs H Q\/r' xs H Q):=by
 intro pins s σ H xs us Q I rs q;rcases q with q|q
 ·exact h pins s σ H xs us Q I rs q
 ·exact h' pins s σ H xs us Q I rs q
theorem iB':i9 X (.type "list") (λxs H Q=>∃ p ys,xs=[.ref p]/\(eJ X.K H p ys\/ke X.K H p ys)/\∀ l,H l=none->Q (.ref l) (upd H l (.lst ys))):=by
 walk_at"o";obtain⟨p,ys,rfl,hq,q⟩:=h;obtain⟨u,rfl,rx⟩:=vals1 r;cases rx;have fin:∀ (its:List Value),Vals ys its->ys.length<=sizeLine->∀ (h':Heap) (c':Nat),(∀ b o',s.heap.get? b=some o'->h'.get? b=some o') ->
   h'.get? s.heap.objs.size=some { cls:=.type "list",dict:=none,data:=.seq its.toArray c',slots:=#[] }->EP X pins σ Q (.ref s.heap.objs.size) { s with heap:=h' }:=λits r' hz h' c' kp e =>
  ⟨.ref s.heap.objs.size,_,I.laid (t':=s.toks) kp (bE _) (show fh X.prog X.w _ h' _ (.lst ys) from⟨hz,its,c',r',e⟩),rfl,q _ (I.aS.fresh (bE _))⟩
 rcases hq with hq|hq
 ·obtain⟨its,r',pl,hz⟩:=I.list hq;have hlen:=r'.length;obtain⟨o,ho,hc,n,hd⟩:=pl.isList;exact call_list_seq p (.inl rfl) ho hc hd (λh' c' kp e=>fin its r' hz h' c' kp e) (by simp only[i5]<;>lia)
 ·obtain⟨its,r',pl,hz⟩:=I.tuple hq;have hlen:=r'.length;obtain⟨o,ho,hc,n,hd⟩:=pl;exact call_list_seq p (.inr rfl) ho hc hd (λh' c' kp e=>fin its r' hz h' c' kp e) (by simp only[i5]<;>lia)
def tyV(K:PySem.W.Frag)(T:String)(x:V)(H:Hp):Prop:=match x with
 |.str _=>T = "str"
 |.int _=>T = "int"
 |.ref p=>(T = "list"/\∃ xs,eJ K H p xs)\/(T = "tuple"/\∃ o,K.lookup p=some o/\o.cls=.type "tuple"/\o.dict=none) \/
   (T = "dict"/\((∃ ae,H p=some (.dK ae))\/∃ ae,H p=some (.dT ae)))\/(T = "set"/\∃ S n,H p=some (.set S n))
 |_=>False
theorem iC'{pins:List (Addr × Obj)}{σ:St}{H:Hp}{s:Shared}{T:String}{x:V}{v:Value}(I:Inv X pins σ H s)(r:RelV x v)(ty:tyV X.K T x H) :
  s.TypeIs v T/\∀ a,v=.ref a->∃ ob,s.heap.get? a=some ob/\ob.dict=none:=by
 cases x with
 |str z =>obtain⟨t,rfl⟩:=r;cases (show T = "str" from ty);exact⟨typeIs_str s z t,λ_ e=>nomatch e⟩
 |int i =>obtain⟨t,rfl⟩:=r;cases (show T = "int" from ty);exact⟨typeIs_int s i t,λ_ e=>nomatch e⟩
 |ref p =>
  cases r;rcases ty with⟨rfl,xs,hq⟩|⟨rfl,o,hk,hc,hd⟩|⟨rfl,hk⟩|⟨rfl,S,n,hk⟩
  ·obtain⟨its,_,pl,_⟩:=I.list hq;refine⟨pl.isList.typeIs,λa e=>?_⟩;cases e;obtain⟨o,n,e,c,hd,_⟩:=pl;exact⟨o,e,hd⟩
  ·refine⟨⟨o,I.kc p o hk,hc⟩,λa e=>?_⟩;cases e;exact⟨o,I.kc _ o hk,hd⟩
  ·have z:∃ o,s.heap.get? p=some o/\o.ExactDict:=by
    rcases hk with⟨ae,hk⟩|⟨ae,hk⟩
    ·obtain⟨_,_,_,_,o,_,_,e,ex,_⟩:=I.aS p _ hk;exact⟨o,e,ex⟩
    ·obtain⟨_,_,_,_,o,_,_,e,ex,_⟩:=I.aS p _ hk;exact⟨o,e,ex⟩
   obtain⟨o,e,ex⟩:=z;refine⟨⟨o,e,ex.1⟩,λa e2=>?_⟩;cases e2;exact⟨o,e,ex.2.1⟩
  ·obtain⟨o,_,_,_,e,ex,_⟩:=I.aS p _ hk;refine⟨⟨o,e,ex.1⟩,λa e2=>?_⟩;cases e2;exact⟨o,e,ex.2.1⟩
 |_=>exact False.elim ty
def tBM(K:PySem.W.Frag)(T:String)(r:V->List V->Hp->VK->Prop)(to:TE)(t:TA):TE:=λσ H Q=>to σ H λx H1=>tyV K T x H1/\t σ H1 λxs H2=>r x xs H2 Q
variable {o e:Expr}{es:List Expr}{to:TE}{t:TA}{name:Str}{apos cw:Pos}{T id:String}{r:V->List V->Hp->VK->Prop}
theorem HG (pa:PlainAttrs T) (slot:Slot T name id) (HK:typeOf (.builtin id)=pure (.type "method_descriptor")) (hm:HC X id r) (ho:PE X o to) (ha:PA X (e :: es) t)(tN:attributeBase o name X.env (eval o X.env)=eval o X.env:=by rfl) (pe:((backTo cw (starEach (e :: es) X.env)).all (λx=>!x.1) && (backToKw cw (keywordEach [] X.env)).all (λx=>x.1.isSome)
   && decide ((e :: es).length+([]:List Keyword).length+(if ([]:List Keyword).isEmpty then 0 else 1)<30))=true:=by rfl)
  (hline:(apos.endLine == cw.line)=true:=by rfl) (hs:starEach (e :: es) X.env=(false,eval e X.env) :: starEach es X.env:=by rfl) (tP:(backTo cw (starEach es X.env)).any (·.1)=false:=by rfl) :
  PE X (.Call (.Attribute o name apos) (e :: es) [] cw) (tBM X.K T r to t):=by
 walk_at"x";refine wpAny_Call_method_late tN pe hline rfl (bX (ho pins s σ H _ I h) λv s1 ck=>?_);obtain⟨x,H1,I1,r1,ty,q1⟩:=ck;obtain⟨h1,h2⟩:=iC' I1 r1 ty;refine⟨T,id,pa,slot,HK,h1,h2,?_⟩;have hA:=ha cw pins s1 σ H1 _ I1 q1;rw[hs] at hA ⊢;refine Calls.callWith_builtin (by show(false || (backTo cw (starEach es X.env)).any (·.1))=false;rw[tP]<;>rfl) (Calls.evalArgs_plain ?_);exact bX hA λus s2 b6=>L2.fe b6 λvs H2 I2 r2 q2=>hm pins s2 σ H2 x vs v us Q I2 r1 r2 q2
end
def MtM(X:Cx)(id:String)(r:V->List V->Hp->VK->Prop):Prop :=
 ∀ (pins:List (Addr × Obj)) (s:Shared) (σ:St) (H:Hp) (x:V) (xs:List V) (v:Value) (us:List Value) (Q:VK),Inv X pins σ H s->RelV x v->Vals xs us->r x xs H Q ->
  wpAny (model X.prog X.w) X.A (call (.builtin id) (v :: us)) (EP X pins σ Q) X.xe s
theorem Vals.one{x:V}{us:List Value}(h:Vals [x] us):∃ u,us=[u]/\RelV x u:=by cases h;rename_i r h;cases h;exact⟨_,rfl,‹_›⟩
theorem Vals.two{x y:V}{us:List Value}(h:Vals [x,y] us):∃ u v,us=[u,v]/\RelV x u/\RelV y v:=by cases h;rename_i r h;cases h;rename_i q h;cases h;exact⟨_,_,rfl,‹_›,‹_›⟩
section
variable {X:Cx}{pins:List (Addr × Obj)}{σ:St}{H:Hp}{s:Shared}{l:Addr}{xs ys:List V}
theorem Inv.iF'{its its':List Value}{n:Nat}{f:Array Value->Array Value}{t':Nat}(I:Inv X pins σ H s)(hH:H l=some (.lst xs))(e:s.heap.get? l=some { cls:=.type "list",data:=.seq its.toArray n }) (hf:f its.toArray=its'.toArray) (hv:Vals ys its') (hz:ys.length<=sizeLine) :
  Inv X pins σ (upd H l (.lst ys)) { s with heap:=s.heap.update l (Obj.mapSeq f),toks:=t' }:=by
 have q:=PySem.IsL.update e f;rw[hf] at q;refine I.write (x:=l) (e:=l) (by rw[hH];exact trivial) (.inl rfl) (λb' u hb hu=>(xA s.heap (Obj.mapSeq f) (Ne.symm hb)).trans hu) ⟨_,q⟩ ?_;exact⟨hz,its',_,hv,q⟩
theorem Inv.MG{its:List Value}{t':Nat}(I:Inv X pins σ H s)(hv:Vals ys its)(hz:ys.length<=sizeLine) :
  Inv X pins σ (upd H s.heap.objs.size (.lst ys)) { s with heap:=s.heap.push { cls:=.type "list",data:=.seq its.toArray },toks:=t' } :=
 I.laid (λ_ _ q=>dA _ q) (bE _) ⟨hz,its,0,hv,gV _ rfl⟩
theorem Inv.fresh(I:Inv X pins σ H s):H s.heap.objs.size=none:=I.aS.fresh (bE _)
theorem Inv.iG' (I:Inv X pins σ H s) (hH:H l=some (.lst xs)):xs.length<=sizeLine/\∃ (its:List Value) (n:Nat),Vals xs its/\xs.length=its.length/\s.heap.get? l=some { cls:=.type "list",data:=.seq its.toArray n }:=by obtain⟨z,its,n,r,e⟩:=I.aS l _ hH;exact⟨z,its,n,r,r.length,e⟩
end
section
variable {X:Cx}
def iH':V->List V->Hp->VK->Prop:=λx vs H Q=>∃ l xs y,x=.ref l/\vs=[y]/\H l=some (.lst xs)/\xs.length<sizeLine/\Q .non (upd H l (.lst (xs++[y])))
theorem Sf:MtM X "list.append" iH':=by intro pins s σ H x vs v us Q I rx rv h;obtain⟨l,xs,y,rfl,rfl,hH,hz,q⟩:=h;cases rx;obtain⟨u,rfl,ru⟩:=rv.one;obtain⟨z,its,n,r,hl,e⟩:=I.iG' hH;refine call_meets F.slot_list_append ⟨_,e,rfl⟩ F.entry_list_append (F.args_list_append_2 _ _) (PySem.list_append l its.toArray n u (by rw[i5];lia)) ⟨e,?_⟩;refine⟨.non,_,I.iF' (its':=its++[u]) hH e (by simp) (r.append (.cons ru .nil)) ?_,rfl,q⟩;rw[kK,Rm];assumption
end
section
set_option maxRecDepth 100000 in
end
section
variable {κ:Type}[DecidableEq κ]
def pf(ae:List (κ × V))(k:κ):Option V:=(ae.find? λkv=>decide (kv.1=k)).map (·.2)
def putK(ae:List (κ × V))(k:κ)(v:V):List (κ × V) :=
 if (ae.any λkv=>decide (kv.1=k))=true then ae.map (λkv=>if kv.1=k then (kv.1,v) else kv) else ae++[(k,v)]
def ce'(ae:List (κ × V))(k:κ):List (κ × V):=ae.filter λkv=>decide (kv.1≠k)
theorem Sg{p:κ × V}{r:List (κ × V)}{k:κ}(e:p.1=k):pf (p :: r) k=some p.2:=by simp[pf,FT,e]
theorem Sh{p:κ × V}{r:List (κ × V)}{k:κ}(e:¬ p.1=k):pf (p :: r) k=pf r k:=by simp[pf,FT,e]
theorem cf'(k:κ):∀ ae:List (κ × V),(ae.any λkv=>decide (kv.1=k))=(pf ae k).isSome
 |[]=>rfl
 |p :: r=>by
  rw[B4];by_cases e:p.1=k
  ·simp only[Sg e,decide_eq_true e,Bool.true_or,Option.isSome_some]
  ·rw[Sh e,decide_eq_false e,Bool.false_or];exact cf' k r
theorem cg'(ae:List (κ × V))(k:κ)(v:V):(putK ae k v).length<=ae.length+1:=by
 unfold putK;split
 ·rw[cE];exact xv _ _
 ·rw[kK,oP,List.length_nil];exact bE _
theorem xD.ML{o:Option V}{u:Option Value}(r:xD o u):o.isSome=u.isSome:=by
 cases o with
 |none=>cases u with
  |none=>rfl
  |some _=>exact(show False from r).elim
 |some _=>cases u with
  |none=>exact(show False from r).elim
  |some _=>rfl
theorem KV.val{ae:List (κ × V)}{vs:List (κ × Value)}(r:KV ae vs)(k:κ):xD (pf ae k) (valueAt vs k):=by
 unfold KV at r
 induction r with
 |nil=>exact True.intro
 |@cons p q ps qs h t ih =>
  obtain⟨h1,h2⟩:=h;by_cases e:p.1=k
  ·have e':q.1=k:=h1.symm.trans e;have b:valueAt (q :: qs) k=some q.2:=by simp[valueAt,FT,e']
   rw[Sg e,b];exact h2
  ·have e':¬ q.1=k:=λz=>e (h1.trans z);have b:valueAt (q :: qs) k=valueAt qs k:=by simp[valueAt,FT,e']
   rw[Sh e,b];exact ih
theorem KV.any{ae:List (κ × V)}{vs:List (κ × Value)}(r:KV ae vs)(k:κ):(ae.any λkv=>decide (kv.1=k))=vs.any λkv=>decide (kv.1=k):=by
 unfold KV at r
 induction r with
 |nil=>rfl
 |cons h t ih=>rw[B4,B4,ih,h.1]
theorem KV.repl{ae:List (κ × V)}{vs:List (κ × Value)}(r:KV ae vs)(k:κ){y:V}{u:Value}(ry:RelV y u) :
  KV (ae.map λkv=>if kv.1=k then (kv.1,y) else kv) (vs.map λkv=>if kv.1=k then (kv.1,u) else kv):=by
 unfold KV at r ⊢
 induction r with
 |nil=>exact .nil
 |@cons p q ps qs h t ih =>
  rw[fz,fz];refine .cons ?_ ih;obtain⟨h1,h2⟩:=h;by_cases e:p.1=k
  ·rw[if_pos e,if_pos (h1.symm.trans e)];exact⟨h1,ry⟩
  ·rw[if_neg e,if_neg (λz=>e (h1.trans z))];exact⟨h1,h2⟩
theorem KV.put{ae:List (κ × V)}{vs:List (κ × Value)}(r:KV ae vs)(k:κ){y:V}{u:Value}(ry:RelV y u):KV (putK ae k y) (stored vs k u):=by
 unfold putK stored;rw[r.any k];by_cases e:(vs.any λkv=>decide (kv.1=k))=true
 ·rw[if_pos e,if_pos e];exact r.repl k ry
 ·rw[if_neg e,if_neg e];exact Paired.snoc r ⟨rfl,ry⟩
theorem KV.drop{ae:List (κ × V)}{vs:List (κ × Value)}(r:KV ae vs)(k:κ):KV (ce' ae k) (without vs k):=by
 unfold KV at r ⊢;unfold ce' without
 induction r with
 |nil=>exact .nil
 |@cons p q ps qs h t ih =>
  obtain⟨h1,h2⟩:=h;rw[List.filter_cons,List.filter_cons];by_cases e:p.1=k
  ·have a:¬ decide (p.1≠k)=true:=by simp[e]
   have b:¬ decide (q.1≠k)=true:=by simp[h1.symm.trans e]
   rw[if_neg a,if_neg b];exact ih
  ·have e':¬ q.1=k:=λz=>e (h1.trans z);have a:decide (p.1≠k)=true:=by simp[e]
   have b:decide (q.1≠k)=true:=by simp[e']
   rw[if_pos a,if_pos b];exact .cons ⟨h1,h2⟩ ih
theorem KV.length{ae:List (κ × V)}{vs:List (κ × Value)}(r:KV ae vs):ae.length=vs.length:=Paired.length r
end
theorem MQ{P:Program}{w:World}{k:Key}{u:Value}(r:RelV (kV k) u):(kL P w).is k u=true:=by
 cases k with
 |inl i=>obtain⟨t,e⟩:=(show ∃ t,u=Value.int i t from r);subst e;exact fB' P w i t
 |inr x=>obtain⟨t,e⟩:=(show ∃ t,u=Value.str x t from r);subst e;exact fC' P w x t
theorem UQ{P:Program}{w:World}:∀ {ks:List Key} {us:List Value},Vals (ks.map kV) us->ItemsAre (kL P w) ks us
 |[],_,r=>by rw[List.map_nil] at r;cases r;exact .nil
 |k :: ks,_,r=>by
  rw[fz] at r
  cases r with
  |cons h t=>exact .cons (MQ h) (UQ t)
abbrev KT(H:Hp):List (List Key × V)->List (List Key × Addr × Value)->Prop:=Paired λp q=>p.1=q.1/\H q.2.1=some (.tup (p.1.map kV))/\RelV p.2 q.2.2
theorem KT.val{H:Hp}{ae:List (List Key × V)}{xs:List (List Key × Addr × Value)}(r:KT H ae xs)(k:List Key):xD (pf ae k) ((atKey xs k).map (·.2)):=by
 induction r with
 |nil=>exact True.intro
 |@cons p q ps qs h t ih =>
  obtain⟨h1,_,h2⟩:=h;by_cases e:p.1=k
  ·have e':q.1=k:=h1.symm.trans e;have b:atKey (q :: qs) k=some q.2:=by simp[atKey,FT,e']
   rw[Sg e,b];exact h2
  ·have e':¬ q.1=k:=λz=>e (h1.trans z);have b:atKey (q :: qs) k=atKey qs k:=by simp[atKey,FT,e']
   rw[Sh e,b];exact ih
theorem KT.repl{H:Hp}{ae:List (List Key × V)}{xs:List (List Key × Addr × Value)}(r:KT H ae xs)(k:List Key){y:V}{u:Value}(ry:RelV y u) :
  KT H (ae.map λkv=>if kv.1=k then (kv.1,y) else kv) (xs.map (putAt k u)):=by
 induction r with
 |nil=>exact .nil
 |@cons p q ps qs h t ih =>
  rw[fz,fz];refine .cons ?_ ih;obtain⟨h1,h2,h3⟩:=h;unfold putAt;by_cases e:p.1=k
  ·rw[if_pos e,if_pos (h1.symm.trans e)];exact⟨h1,h2,ry⟩
  ·rw[if_neg e,if_neg (λz=>e (h1.trans z))];exact⟨h1,h2,h3⟩
theorem KT.put{H:Hp}{ae:List (List Key × V)}{xs:List (List Key × Addr × Value)}(r:KT H ae xs)(k:List Key){b:Addr}{y:V}{u:Value}(hb:H b=some (.tup (k.map kV)))(ry:RelV y u) :
  KT H (putK ae k y) (storedH xs k b u):=by
 have e:(ae.any λkv=>decide (kv.1=k))=(atKey xs k).isSome:=by rw[cf',(r.val k).ML,Uq]
 unfold putK storedH;rw[e];by_cases q:(atKey xs k).isSome=true
 ·rw[if_pos q,if_pos q];exact r.repl k ry
 ·rw[if_neg q,if_neg q];exact Paired.snoc r ⟨rfl,hb,ry⟩
theorem KT.keeps{H H':Hp}{ae:List (List Key × V)}{xs:List (List Key × Addr × Value)}(r:KT H ae xs)(ht:∀ b ys,H b=some (.tup ys)->H' b=some (.tup ys)):KT H' ae xs :=
 Paired.Ur r λ_ _ z=>⟨z.1,ht _ _ z.2.1,z.2.2⟩
section
variable {P:Program}{w:World}{H:Hp}{h:Heap}{a:Addr}
theorem ch'{u:HO}(ok:fE P w H h)(e:Rd H a u):fh P w H h a u:=e.ok ok
theorem HL{ae:List (Key × V)}(ok:fE P w H h)(e:Rd H a (.dK ae)):ae.length<=sizeLine/\(a == sysModules)=false/\∃ vs,KV ae vs/\h.DictOf (kL P w) a vs :=
 show fh P w H h a (.dK ae) from ch' ok e
theorem iI'{ae:List (Key × V)}(ok:fE P w H h)(e:H a=some (.dK ae)):ae.length<=sizeLine/\(a == sysModules)=false/\∃ vs,KV ae vs/\h.DictOf (kL P w) a vs:=HL ok (.inl e)
theorem MR{ks:List Key}(ok:fE P w H h)(e:H a=some (.tup (ks.map kV))):(tupleKind (kL P w)).is h ks a:=by
 obtain⟨_,its,r,o,h1,h2,n,h3⟩:=(show fh P w H h a (.tup (ks.map kV)) from ok a _ e)
 exact⟨o,its.toArray,n,h1,h2,h3,by simpa using UQ r⟩
theorem MS{ae:List (List Key × V)}(ok:fE P w H h)(e:Rd H a (.dT ae)):ae.length<=sizeLine/\(a == sysModules)=false /\
  ∃ xs,KT H ae xs/\h.DictOfH (tupleKind (kL P w)) a xs:=by
 obtain⟨z,y,xs,r,o,es,ep,h1,h2,h3,h4,h5⟩:=(show fh P w H h a (.dT ae) from ch' ok e)
 refine⟨z,y,xs,r,o,es,ep,h1,h2,h3,h4,λx hx=>?_,h5⟩;have all:∀ {l:List (List Key × V)} {m:List (List Key × Addr × Value)},KT H l m->∀ x∈m,(tupleKind (kL P w)).is h x.1 x.2.1:=by
  intro l m q
  induction q with
  |nil=>intro x hx;exact nomatch hx
  |@cons p q ps qs hq t ih =>
   intro x hx;rcases dc.mp hx with e|hx
   ·subst e;exact MR ok (by rw[<- hq.1];exact hq.2.1)
   ·exact ih x hx
 exact all r x hx
theorem iJ'{ae:List (List Key × V)}(ok:fE P w H h)(e:H a=some (.dT ae)):ae.length<=sizeLine/\(a == sysModules)=false /\
  ∃ xs,KT H ae xs/\h.DictOfH (tupleKind (kL P w)) a xs:=MS ok (.inl e)
end
def oq(H:Hp)(a:Addr)(y:V)(r:Option V):Prop :=
 (∃ ae k,Rd H a (.dK ae)/\y=kV k/\r=pf ae k)\/∃ ae k b,Rd H a (.dT ae)/\y=.ref b/\H b=some (.tup (k.map kV))/\r=pf ae k
def DB(H:Hp)(a:Addr)(y v:V)(H':Hp):Prop :=
 (∃ ae k,H a=some (.dK ae)/\y=kV k/\ae.length<sizeLine/\H'=upd H a (.dK (putK ae k v))) \/
 ∃ ae k b,H a=some (.dT ae)/\y=.ref b/\H b=some (.tup (k.map kV))/\ae.length<sizeLine/\H'=upd H a (.dT (putK ae k v))
theorem oq.k{H:Hp}{a:Addr}{ae:List (Key × V)}{k:Key}(e:H a=some (.dK ae)):oq H a (kV k) (pf ae k):=.inl ⟨ae,k,.inl e,rfl,rfl⟩
theorem oq.t{H:Hp}{a b:Addr}{ae:List (List Key × V)}{k:List Key}(e:H a=some (.dT ae))(eb:H b=some (.tup (k.map kV))):oq H a (.ref b) (pf ae k):=.inr ⟨ae,k,b,.inl e,rfl,eb,rfl⟩
theorem DB.k{H:Hp}{a:Addr}{ae:List (Key × V)}{k:Key}{v:V}(e:H a=some (.dK ae))(hl:ae.length<sizeLine):DB H a (kV k) v (upd H a (.dK (putK ae k v))):=.inl ⟨ae,k,e,rfl,hl,rfl⟩
theorem DB.t{H:Hp}{a b:Addr}{ae:List (List Key × V)}{k:List Key}{v:V}(e:H a=some (.dT ae))(eb:H b=some (.tup (k.map kV)))(hl:ae.length<sizeLine) :
  DB H a (.ref b) v (upd H a (.dT (putK ae k v))):=.inr ⟨ae,k,b,e,rfl,eb,hl,rfl⟩
section
variable {X:Cx}{pins:List (Addr × Obj)}{σ:St}{H:Hp}{s:Shared}{a:Addr}{y v:V}{u r:Value}{o:Option V}{A:Around}{E:Value->Shared->Prop}
theorem Inv.big(I:Inv X pins σ H s):sysModules<s.heap.objs.size:=by have h:mainGlobals<s.heap.objs.size:=(I.mod.glob.keeps I.bk).lt;exact Ru (by decide) h
theorem iK'{Q:Value->Shared->Prop}(hu:A.units+1<cLine)(I:Inv X pins σ H s)(g:oq H a y (some v))(ry:RelV y u)(h:∀ w' s',Inv X pins σ H s'->RelV v w'->Q w' s') :
  wpAny (model X.prog X.w) A (getItem (.ref a) u) Q E s:=by
 rcases g with⟨ae,k,e,ey,l⟩|⟨ae,k,b,e,ey,eb,l⟩
 ·subst ey;walk_at"bf";obtain⟨w',hw,pd⟩:=xD.some_of (v:=v) (o:=valueAt vs k) (by rw[l];exact rel.val k);exact wpAny_getItem_of (MQ ry) dd.mapOf hw (h w' _ (I.tok _) pd)
 ·subst ey;walk_at"ay";walk_at"be";obtain⟨w',hw,pd⟩:=xD.some_of (v:=v) (o:=(atKey xs k).map (·.2)) (by rw[l];exact rel.val k);obtain⟨p,hp,hp2⟩:=RL.mp hw;refine wpAny_getItem_heap (tupleKind_room_in1 hu) (MR I.aS eb) dd hp ?_;rw[hp2];exact h w' _ (I.tok _) pd
theorem iM'{Q:Value->Shared->Prop}(hu:A.units+1<cLine)(I:Inv X pins σ H s)(g:oq H a y o)(ry:RelV y u)(h:∀ s',Inv X pins σ H s'->Q (.bool o.isSome) s') :
  wpAny (model X.prog X.w) A (compareOp .In u (.ref a)) Q E s:=by
 rcases g with⟨ae,k,e,ey,l⟩|⟨ae,k,b,e,ey,eb,l⟩
 ·subst ey;walk_at"bf";refine wpAny_in_of (MQ ry) hd dd.mapOf ?_;rw[<- (rel.val k).ML,<- l];exact h _ (I.tok _)
 ·subst ey;walk_at"ay";walk_at"be";refine wpAny_in_heap (tupleKind_room_in1 hu) (MR I.aS eb) hd dd ?_;have q:=(rel.val k).ML;rw[Uq] at q;rw[<- q,<- l];exact h _ (I.tok _)
theorem iN'{Q:Value->Shared->Prop}(hu:A.units+1<cLine)(I:Inv X pins σ H s)(g:oq H a y o)(ry:RelV y u)(h:∀ s',Inv X pins σ H s'->Q (.bool (!o.isSome)) s') :
  wpAny (model X.prog X.w) A (compareOp .NotIn u (.ref a)) Q E s:=by
 rcases g with⟨ae,k,e,ey,l⟩|⟨ae,k,b,e,ey,eb,l⟩
 ·subst ey;walk_at"bf";refine wpAny_notIn_of (MQ ry) hd dd.mapOf ?_;rw[<- (rel.val k).ML,<- l];exact h _ (I.tok _)
 ·subst ey;walk_at"ay";walk_at"be";refine wpAny_notIn_heap (tupleKind_room_in1 hu) (MR I.aS eb) hd dd ?_;have q:=(rel.val k).ML;rw[Uq] at q;rw[<- q,<- l];exact h _ (I.tok _)
theorem ci'{h':Heap}{t':Nat}{ob:HO}(I:Inv X pins σ H s)(mu:LP (H a))(hs:Heap.SameBut a s.heap h')(he:∃ q,h'.get? a=some q)(new:fh X.prog X.w (upd H a ob) h' a ob) :
  Inv X pins σ (upd H a ob) { s with heap:=h',toks:=t' } :=
 I.write (x:=a) (e:=a) mu (.inl rfl) (λb q hb z=>(hs.2 b hb).trans z) he new
theorem iO'{P:Program}{w:World}{H':Hp}{h':Heap}{ae:List (Key × V)}{vs:List (Key × Value)}(z:ae.length<=sizeLine)(hd:(a == sysModules)=false)(rel:KV ae vs)(dd:h'.DictOf (kL P w) a vs) :
  fh P w H' h' a (.dK ae):=⟨z,hd,vs,rel,dd⟩
theorem iP'{H':Hp}{Q:Unit->Shared->Prop}(hu:A.units+1<cLine)(I:Inv X pins σ H s)(g:DB H a y v H')(ry:RelV y u)(rv:RelV v r)(h:∀ s',Inv X pins σ H' s'->Q () s') :
  wpAny (model X.prog X.w) A (setItem (.ref a) u r) Q E s:=by
 rcases g with⟨ae,k,e,ey,l,eH⟩|⟨ae,k,b,e,ey,eb,l,eH⟩
 ·subst ey eH;obtain⟨z,hd,vs,rel,dd⟩:=iI' I.aS e;have hz:vs.length<=sizeLine:=by rw[<- rel.length];exact z
  have hl:(putK ae k v).length<=sizeLine:=by have:=cg' ae k v;walk_at "s1"
  refine wpAny_setItem_pairs (hsz:=hz) (MQ ry) dd λh' Si hs=>h _ ?_;have he:∃ q,h'.get? a=some q:=let ⟨q,_,_,hq,_⟩:=Si;⟨q,hq⟩
  exact ci' I (by rw[e];exact True.intro) hs he (iO' hl hd (rel.put k rv) Si)
 ·subst ey eH;walk_at"ay";obtain⟨z,hd,xs,rel,dd⟩:=iJ' I.aS e;have hz:xs.length<=sizeLine:=by rw[<- Paired.length rel];exact z
  have hl:(putK ae k v).length<=sizeLine:=by have:=cg' ae k v;walk_at "s1"
  refine wpAny_setItem_heap (hsz:=hz) (tupleKind_room_in1 hu) (MR I.aS eb) dd λh' Si hs=>h _ ?_;obtain⟨q,es,ep,hq,h2,h3,h4,_,h5⟩:=Si;refine ci' I (by rw[e];exact True.intro) hs ⟨q,hq⟩ ⟨hl,hd,_,(rel.put k eb rv).keeps λc ys ec=>?_,q,es,ep,hq,h2,h3,h4,h5⟩;rw[fR (fD' ec e (λz=>nomatch z))];exact ec
end
section
variable {X:Cx}{pins:List (Addr × Obj)}{σ:St}{H:Hp}{s:Shared}{a:Addr}{ae:List (Key × V)}{A:Around}{E:Value->Shared->Prop}
theorem iQ' {Q:Value->Shared->Prop} (I:Inv X pins σ H s) (e:Rd H a (.dK ae)) (h:∀ t s',Inv X pins σ H s'->Q (.int ae.length t) s'):wpAny (model X.prog X.w) A (call (.builtin "len") [.ref a]) Q E s:=by obtain⟨z,hd,vs,rel,dd⟩:=HL I.aS e;refine call_len_dict hd dd (by rw[<- rel.length];rw[sizeLine_eq] at z;lia) ?_;rw[<- rel.length];exact h _ _ (I.tok _)
end
theorem iR' {X:Cx} {pins:List (Addr × Obj)} {σ:St} {H:Hp} {s:Shared} {a:Addr} {y:V} {o:Option V} (I:Inv X pins σ H s) (g:oq H a y o):s.TypeIs (.ref a) "dict" := by
 rcases g with⟨ae,k,e,_,_⟩|⟨ae,k,b,e,_,_,_⟩
 ·obtain⟨_,_,vs,_,dd⟩:=HL I.aS e;exact dd.typeIs
 ·obtain⟨_,_,xs,_,dd⟩:=MS I.aS e;exact dd.typeIs
def iS'(td ty tv:TE):TS:=λD σ H=>tv σ H λv H1=>td σ H1 λx H2=>ty σ H2 λy H3=>∃ a H4,x=.ref a/\DB H3 a y v H4/\D.nx σ H4
section
variable {X:Cx}{o i value:Expr}{pos pos':Pos}{td ty tv:TE}
theorem iT'(hu:X.A.units+1<cLine)(ho:PE X o td)(hi:PE X i ty)(hv:PE X value tv)(hs:swapsWith value (some (.Subscript o i pos')) pos.line X.env=pure false) :
  PS X (.Assign [.Subscript o i pos'] value pos) (iS' td ty tv):=by
 walk_at"ac";refine wpAny_Assign_Subscript (bX (hv pins s σ H _ I h) λr s1 b6=>L2.fe b6 λv H1 I1 rv q1=>bX (ho pins s1 σ H1 _ I1 q1) λu s2 b6=>L2.fe b6 λx H2 I2 rx q2=>bX (hi pins s2 σ H2 _ I2 q2) λiv s3 ck=>?_) hs;obtain⟨y,H3,I3,ry,a,H4,ex,g,q3⟩:=ck;subst ex;obtain rfl:u=Value.ref a:=rx;exact iP' hu I3 g ry rv λs4 I4=>⟨σ,H4,I4,q3⟩
end
theorem iU' {P:Program} {w:World} {H:Hp} (h:Heap) (hb:sysModules<h.objs.size):fh P w H (h.push { cls:=.type "dict",data:=.dict #[] }) h.objs.size (.dK []) :=
 ⟨dy _,beq_eq_false_iff_ne.mpr (Ne.symm (eL hb)),[],.nil,Heap.DictOf.new h⟩
theorem iV' {P:Program} {w:World} {H:Hp} (h:Heap) (hb:sysModules<h.objs.size):fh P w H (h.push { cls:=.type "dict",data:=.dict #[] }) h.objs.size (.dT []) :=
 ⟨dy _,beq_eq_false_iff_ne.mpr (Ne.symm (eL hb)),[],.nil,_,#[],0,gV _ rfl,⟨rfl,rfl,rfl⟩,rfl,rfl,kA⟩
def iW':TE:=λ_ H Q=>∀ p,H p=none->Q (.ref p) (upd H p (.dK []))
def iX':TE:=λ_ H Q=>∀ p,H p=none->Q (.ref p) (upd H p (.dT []))
section
variable {X:Cx}{pos:Pos}
theorem iY':PE X (.Dict [] [] pos) iW':=λpins s σ H Q I h =>
 wpAny_Dict_empty ⟨.ref s.heap.objs.size,_,I.laid (a:=s.heap.objs.size) (o:=.dK []) (t':=s.toks) (λ_ _ q=>dA _ q) (bE _) (iU' s.heap I.big),rfl,h _ (I.aS.fresh (bE _))⟩
theorem iZ':PE X (.Dict [] [] pos) iX':=λpins s σ H Q I h =>
 wpAny_Dict_empty ⟨.ref s.heap.objs.size,_,I.laid (a:=s.heap.objs.size) (o:=.dT []) (t':=s.toks) (λ_ _ q=>dA _ q) (bE _) (iV' s.heap I.big),rfl,h _ (I.aS.fresh (bE _))⟩
end
structure M1(X:Cx)(o:Expr)(m:Str)(apos:Pos)(e:Expr)(cw:Pos):Prop where
 base:attributeBase o m X.env (eval o X.env)=eval o X.env
 few:((backTo cw (starEach [e] X.env)).all (fun x=>!x.1) && (backToKw cw (keywordEach [] X.env)).all (fun x=>x.1.isSome)
  && decide (([e]:List Expr).length+([]:List Keyword).length+(if ([]:List Keyword).isEmpty then 0 else 1)<30))=true
 line:(apos.endLine == cw.line)=true
 trees:backTo cw (starEach [e] X.env)=[(false,eval e X.env)]
structure M2(X:Cx)(o:Expr)(m:Str)(apos:Pos)(e f:Expr)(cw:Pos):Prop where
 base:attributeBase o m X.env (eval o X.env)=eval o X.env
 few:((backTo cw (starEach [e,f] X.env)).all (fun x=>!x.1) && (backToKw cw (keywordEach [] X.env)).all (fun x=>x.1.isSome)
  && decide (([e,f]:List Expr).length+([]:List Keyword).length+(if ([]:List Keyword).isEmpty then 0 else 1)<30))=true
 line:(apos.endLine == cw.line)=true
 trees:backTo cw (starEach [e,f] X.env)=[(false,eval e X.env),(false,eval f X.env)]
end L2
namespace Att
open PySem PySem.W PySem.Calls PyProof.Rows
theorem ja'{P:Params}{h:Heap}:∀ (ns:List Int) (vs:List Value),WellAll P h vs (ns.map WData.int)->IntsAre vs ns:=by
 intro ns
 induction ns with
 |nil =>intro vs w;rw[List.map_nil] at w;cases w;exact .nil
 |cons n ns ih =>
  intro vs w;rw[fz] at w
  cases w with
  |cons a b =>cases a;exact .cons _ _ (ih _ b)
theorem jb'{l:OpenLaw}{n:Nat}(hn:l.most=some n){P:Params}{h:Heap}{args:List WData}{vals:List Value}(DC:l.row.toRowW.claim.pre args=true) (UR:WellAll P h vals args) :
  ∃ a vs ns,vals=[Value.ref a]/\args=[WData.list (ns.map WData.int)]/\h.get? a=some { cls:=.type "list",data:=.seq vs.toArray }/\IntsAre vs ns/\ns.length<=n:=by
 have HM:WShape.hasAll [] args [.list .int]=true:=(pre_splitW DC).1;have hc:l.pre.holds [] { args:=args }=true:=(pre_splitW DC).2;obtain⟨d,r,rfl,h1,h2⟩:=hasAllW_cons HM;obtain rfl:=hasAllW_nil h2;obtain⟨xs,rfl,h3⟩:=hasW_list h1;obtain⟨ns,rfl⟩:=items_int h3;have hlen:ns.length<=n:=by
  unfold OpenLaw.pre at hc;have h4:(WTm.not (.lt (.lit (.int (n:Int))) (.len (.arg 0)))).holds [] { args:=[.list (ns.map .int)] }=true:=by have h4:=(holds_andW hc).1;rw[hn] at h4;exact h4
  have h5:=condW_of h4 (w_not (w_lt w_lit (w_len_list (w_arg rfl))));rw[cE] at h5;refine qa λq=>?_;have q':(n:Int)<((ns.length:Nat):Int):=by lia
  first
   | (rw[decide_eq_true q'] at h5;exact absurd h5 (by decide))
   | (simp at h5;lia)
 cases UR with
 |cons w1 w2 =>
  cases w2
  cases w1 with
  |list ho mM=>exact⟨_,_,ns,rfl,rfl,ho,ja' ns _ mM,hlen⟩
theorem jc'(l:OpenLaw)(args:List WData):l.row.toRowW.claim.post args (.bool true) args=true :=
 postW_of (r:=l.row.toRowW) (X:=(true == true)) (show WShape.has [] (.bool true) .bool=true by first|rfl|decide|simp[WShape.has,WShape.arms,WShape.armsAll]) (show(WTm.eq .res (.lit (.bool true))).value [] { args:=args,res:=some (.bool true),after:=args }=some (.bool (true == true)) from w_eq_bool (w_res rfl) w_lit) rfl
theorem jd'{l:OpenLaw}{n:Nat}{q:Program}{loose:List Str}{XP:(Str->Option Value)->Heap->Prop}{YP:World->Heap->Prop}{d:DefRec}(hn:l.most=some n) (MV:d.params.defaults=[])(call:∀ (w:World) (df eh:Shared) (mg mb:Str->Option Value) (fa:Addr) (o:Obj) (pm cd doc:Value) (a:Addr) (vs:List Value) (ns:List Int),
   Ground q loose [] XP w df mg mb eh.heap->YP w eh.heap ->
   eh.heap.get? fa=some o->o.data=.func (docDef d.name d.params d.body d.scope pm cd doc)->eh.heap.CodeRec cd d.name->mg d.name=some (.ref fa) ->
   eh.heap.get? a=some { cls:=.type "list",data:=.seq vs.toArray }->IntsAre vs ns->ns.length<=n->eh.gens = #[] ->
   codeAny (model l.prog w) callerA (.call (.ref fa) ⟨[.ref a],[]⟩) (λr s'=>r=.ok (.ret (.bool true))/\OldK eh.heap s'.heap/\s'.os=eh.os/\AllBare s'.gens) eh) :
  WalkO q loose XP YP l.row.toRowW d [] (λf vs=>PySem.call f vs):=by
 intro w df eh mg mb G Y fa o pm cd doc dV kV ho hd oS hD MX hg args vals as DC hlay hrd UR DE;obtain rfl:dV=.none:=Dflts.none hD MV;obtain rfl:kV=.none:=Dflts.noKw hD;obtain⟨a,vs,ns,rfl,rfl,MY,hints,hlen⟩:=jb' hn DC UR;refine enter_call (codeAny_mono (call w df eh mg mb fa o pm cd doc a vs ns G Y ho (fd_plain hd) oS MX MY hints hlen hg) λr s' hq=>?_);obtain⟨rfl,h2,h3,h4⟩:=hq;exact⟨.inl ⟨.bool true,.bool true,[],rfl,λ_=>rfl,.bool true,jc' l _,λ_=>⟨List.Pairwise.nil,λ_ hm=>(nomatch hm)⟩⟩,h2,h3,h4⟩
end Att
namespace L2
open PySem PySem.Spec PyProof.Rows
theorem ck':∀ {vs:List Value} {ns:List Int},IntsAre vs ns->Vals (ns.map V.int) vs
 |_,_,.nil=>.nil
 |_,_,.cons n t h=>.cons ⟨t,rfl⟩ (ck' h)
def Only(H:Hp):Prop:=∀ b,H b=none\/∃ o xs,H b=some (.mB o (.lst xs))
theorem je'{P:Program}{w:World}{K:PySem.W.Frag}{mg mb:Str->Option Value}{CX:x3}{k:Nat}{fa a:Addr}{fd:FuncData}{x:Str}{sp:Sp}{eh:Shared}{vs:List Value}{ns:List Int}(KX:K.In eh.heap) (hns:eh.heap.Ns mainGlobals mg) (hb:eh.heap.Ns builtinsNs mb) (hbb:∀ x:Str,x ≠ "__name__"->mb x=bootBuiltins x) (jg':eh.heap.NoLimit) (hg:eh.gens = #[])(ha:eh.heap.get? a=some { cls:=.type "list",data:=.seq vs.toArray }) (hi:IntsAre vs ns) (hl:ns.length<=sizeLine) (hr:gI k callerA) (F:∀ base:Heap,K.In base->base.Ns mainGlobals mg->fi P w K mg base CX k fa fd [x] sp) (jh':∀ (s:Shared) (u:Value),BindsTo s fd ⟨[u],[]⟩ [(x,u)]) (zo:∀ H:Hp,Only H->eJ K H a (ns.map V.int)->sp [.ref a] H (λv _=>v=.bl true) λ_ _ _=>False) (UT:∀ H e s',CX [] H eh (λ_ _ _=>False) e s'->False) :
  codeAny (model P w) callerA (.call (.ref fa) ⟨[.ref a],[]⟩) (λr s'=>r=.ok (.ret (.bool true))/\OldK eh.heap s'.heap/\s'.os=eh.os/\AllBare s'.gens) eh:=by
 have rv:=ck' hi;have ji':=hi.length
 -- from an abstract heap in which nothing but the script may be tracked
 have core:∀ H:Hp,Only H->eJ K H a (ns.map V.int)->fE P w H eh.heap->(∀ b,H b≠none->b=a)->(H a≠none->K.lookup a=none) ->
   codeAny (model P w) callerA (.call (.ref fa) ⟨[.ref a],[]⟩) (λr s'=>r=.ok (.ret (.bool true))/\OldK eh.heap s'.heap/\s'.os=eh.os/\AllBare s'.gens) eh:=by
  intro H hO hS aS hA hK;have cm':∀ {b:Addr} {o:Obj},eh.heap.get? b=some o->H b=none->(AK eh.heap H).get? b=some o:=λe n=>fG' e n;have Mk:∀ {b:Addr} {o:Obj} {es:Array DictEntry} {ep:Nat},eh.heap.get? b=some o->o.data=.dict es ep->H b=none:=λ{b o es ep} e d=>by
   cases q:H b with
   |none=>rfl
   |some u =>have e':b=a:=hA b (by rw[q];simp);subst e';rw[ha] at e;cases e;have d':Data.seq vs.toArray _=Data.dict es ep:=d;cases d'
  have Sj:∀ {b:Addr} {m:Str->Option Value},eh.heap.Ns b m->(AK eh.heap H).Ns b m:=λ{b m} ⟨o,es,ep,e,d,r⟩=>⟨o,es,ep,cm' e (Mk e d),d,r⟩
  have hKb:K.In (AK eh.heap H):=λb o e=>cm' (KX b o e) (by
   cases q:H b with
   |none=>rfl
   |some u =>
    have e':b=a:=hA b (by rw[q];simp);subst e';rw[hK (by rw[q];simp)] at e;cases e)
  have hM:Mod K mg (AK eh.heap H):=⟨hKb,Sj hns,⟨mb,Sj hb,hbb⟩,let ⟨mc,h1,h2⟩:=jg';⟨mc,Sj h1,h2⟩⟩
  have e0:R6 P w K mg (AK eh.heap H) callerA [] eh H:=⟨rfl,hM,λb o e=>fH' e,Nat.le_of_eq (fF' _ _),trivial,λb hb=>absurd (show b∈([]:List Addr) from hb) (by simp),aS,.of_eq hg⟩
  refine codeAny_mono ((F _ hKb (Sj hns)).run callerA [] eh H ⟨[.ref a],[]⟩ [.ref a] [.ref a] _ _ hr e0 (jh' eh (.ref a)) (.cons rfl .nil) (zo H hO hS)) λr s' h=>?_
  cases r with
  |error e=>exact(UT H e s' h).elim
  |ok fl =>
   cases fl with
   |next=>exact False.elim h
   |brk=>exact False.elim h
   |cont=>exact False.elim h
   |ret u =>
    obtain⟨v,H',os,bare,un,jj',r',q⟩:=h;have q':v=.bl true:=q;subst q';obtain rfl:u=Value.bool true:=r';refine⟨rfl,OldK.of_keep λb o e=>?_,os,bare⟩
    cases q:H b with
    |none=>exact un.keep b o e q (by intro z;exact absurd (show b∈([]:List Addr) from z) (by simp)) (by simp)
    |some u =>
     rcases hO b with z|⟨ob,xs,z⟩
     ·rw[q] at z;cases z
     ·have z2:=un.oQ b ob _ z;obtain⟨e1,_⟩:=aS b _ z;obtain⟨e2,_⟩:=jj' b _ z2;rw[e] at e1;cases e1;exact e2
 cases hk:K.lookup a with
 |some o =>
  -- the script is one of the module's own objects
  have e:=KX a o hk;rw[ha] at e;cases e;refine core (λ_=>none) (λ_=>.inl rfl) (.inr ⟨_,vs.toArray,_,hk,rfl,rfl,rfl,by rw[i5,ji'];exact hl,by simpa using rv⟩) (λb u z=>by have z':(none:Option HO)=some u:=z;cases z') (λb z=>absurd rfl z) λz=>absurd rfl z
 |none =>
  refine core (λb=>if b=a then some (.mB { cls:=.type "list",data:=.seq vs.toArray } (.lst (ns.map V.int))) else none) (λb=>?_) (.inl (.inr ⟨{ cls:=.type "list",data:=.seq vs.toArray },if_pos rfl⟩)) (λb u z=>?_) (λb z=>?_) λ_=>hk
  ·by_cases hb:b=a
   ·exact .inr ⟨_,_,if_pos hb⟩
   ·exact .inl (if_neg hb)
  ·by_cases hb:b=a
   ·have z':=(if_pos hb).symm.trans z;cases z';subst hb;exact⟨ha,by rw[cE];exact hl,vs,_,rv,ha⟩
   ·have z':=(if_neg hb).symm.trans z;cases z'
  ·by_cases hb:b=a
   ·exact hb
   ·exact absurd (if_neg hb) z
theorem jk'{l:PySem.W.OpenLaw}{n k:Nat}{q:Program}{loose:List Str}{XP:(Str->Option Value)->Heap->Prop}{YP:World->Heap->Prop}{d:DefRec}{K:Params->PySem.W.Frag}{CX:World->x3}{sp:World->Sp}{x:Str}(hn:l.most=some n) (Sn:n<=sizeLine) (MV:d.params.defaults=[]) (hr:gI k callerA)(hY:∀ (w:World) (h:Heap),YP w h->(K w.params).In h)(F:∀ (w:World) (mg:Str->Option Value) (fa:Addr) (h:Heap),(K w.params).In h->h.Ns mainGlobals mg->mg d.name=some (.ref fa) ->
   ∃ fd:FuncData,(∀ (s:Shared) (u:Value),BindsTo s fd ⟨[u],[]⟩ [(x,u)]) /\
    ∀ base:Heap,(K w.params).In base->base.Ns mainGlobals mg->fi l.prog w (K w.params) mg base (CX w) k fa fd [x] (sp w))
  (zo:∀ (w:World) (H:Hp) (a:Addr) (ns:List Int),ns.length<=n->Only H->eJ (K w.params) H a (ns.map V.int)->sp w [.ref a] H (λv _=>v=.bl true) λ_ _ _=>False)
  (UT:∀ (w:World) (H:Hp) (s:Shared) (e:Value) (s':Shared),CX w [] H s (λ_ _ _=>False) e s'->False) :
  PySem.W.WalkO q loose XP YP l.row.toRowW d [] (λf vs=>PySem.call f vs):=by
 refine Att.jd' hn MV λw df eh mg mb fa o pm cd doc a vs ns G Y ho hd oS MX MY hints hlen hg=>?_;have KX:=hY w _ Y;obtain⟨fd,hb,hF⟩:=F w mg fa _ KX G.T.g MX;exact je' KX G.T.g G.T.b G.T.builtins G.T.nolimit hg MY hints (fP hlen Sn) hr hF hb (λH hO hS=>zo w H a ns hlen hO hS) λH e s'=>UT w H eh e s'
def gi(s:Stmt):Arguments:=match s with
 |.FunctionDef _ a _ _ _ _ _ _ _ _=>a
 |_=>{ posonlyargs:=[],args:=[],vararg:=none,kwonlyargs:=[],kw_defaults:=[],kwarg:=none,defaults:=[] }
def eM(s:Stmt):List Stmt:=match s with
 |.FunctionDef _ _ b _ _ _ _ _ _ _=>b
 |_=>[]
def bG(s:Stmt):Scope:=match s with
 |.FunctionDef _ _ _ _ _ _ sc _ _ _=>sc
 |_=>{ kind:=.function,names:=[],isGenerator:=false,isCoroutine:=false }
abbrev iO:x3:=λ_ _ _ _ _ _=>False
abbrev E0:XK:=λ_ _ _=>False
theorem jm'{X:Cx}:Passes iO X E0:=λ_ _ _ _ _ _ _ h=>h.elim
structure eK(K:PySem.W.Frag)(x qual:Str)(st:Stmt)(f:Addr)(fd:FuncData):Prop where
 ex:∃ (oc:Value) (od:Option Addr) (kV doc pm:Value) (an:Option Addr) (bT ct:Value) (AU:Array (Option Value)),
  fd=PySem.W.fnOf x qual (gi st) (eM st) (bG st) .none kV doc pm an bT ct/\K.lookup f=some ⟨oc,od,.func fd,AU⟩/\PySem.W.codeIn K bT qual=true
 kp:PySem.W.keepIn K (.ref f)=true
section
variable {P:Program}{w:World}{K:PySem.W.Frag}{mg:Str->Option Value}{base:Heap}
theorem eK.ok{x qual:Str}{st:Stmt}{f:Addr}{fd:FuncData}{N ps:List Str}{k:Nat}{sp:Sp}(F:eK K x qual st f fd)(S:gL N ps (bG st))(len:∀ vs H Q E,sp vs H Q E->vs.length=ps.length)(AV:∀ (bT:Value) (A:Around) (outer:List Env) (s:Shared) (H:Hp) (vs:List V) (Q:VK) (E:XK),gI k (A.deeper (envOfC qual (bG st) s.heap.objs.size f bT))->sp vs H Q E ->
   ∃ t,oo (kD iO P w K mg base N qual (bG st) f bT A outer s H E).L4 (eM st) t/\t { nx:=λ_ H'=>Q .non H',rt:=Q } (start N vs) H):fi P w K mg base iO (k+1) f fd ps sp:=by
 walk_at"Z";refine bT' lk oS S len λA outer s H vs Q E hr zo=>?_;obtain⟨t,h,q⟩:=AV bT A outer s H vs Q E hr zo;exact⟨t,h.L4,q⟩
theorem eK.binds{x qual:Str}{st:Stmt}{f:Addr}{fd:FuncData}{ps:List Str}(F:eK K x qual st f fd)(h:∀ (kV doc pm:Value) (an:Option Addr) (bT ct:Value) (us:List Value),us.length=ps.length->bindArgs (PySem.W.fnOf x qual (gi st) (eM st) (bG st) .none kV doc pm an bT ct) ⟨us,[]⟩=pure (ps.zip us)):Binds K fd ps []:=by
 walk_at"Z";exact .all (h kV doc pm an bT ct)
theorem ja{x qual:Str}{st:Stmt}{f:Addr}{oc:Value}{od an:Option Addr}{AU:Array (Option Value)}{kV doc pm bT ct:Value}(l:K.lookup f=some ⟨oc,od,.func (PySem.W.fnOf x qual (gi st) (eM st) (bG st) .none kV doc pm an bT ct),AU⟩)(c:PySem.W.codeIn K bT qual=true) (k:PySem.W.keepIn K (.ref f)=true):eK K x qual st f (PySem.W.fnOf x qual (gi st) (eM st) (bG st) .none kV doc pm an bT ct):=⟨⟨oc,od,kV,doc,pm,an,bT,ct,AU,rfl,l,c⟩,k⟩
end
section
variable {X:Cx}
theorem pv (i:Nat) {x:Str} {pos:Pos} (hN:X.N[i]? = some x:=by rfl) (hv:RT X.env.scope x:=by first|exact Or.inl rfl|exact Or.inr (Or.inl rfl)|exact Or.inr (Or.inr rfl)) (hd:(x == ("__debug__" : Str))=false:=by decide) (oS:(x == ("__classdict__" : Str))=false:=by decide):PE X (.Name x pos) (AQ i):=bk' hN hv hd oS
end
def aT(H H':Hp):Prop:=∀ b o,H b=some o->H' b=some o
theorem aT.refl(H:Hp):aT H H:=λ_ _ h=>h
theorem aT.trans{H H1 H2:Hp}(a:aT H H1)(b:aT H1 H2):aT H H2:=λc o h=>b c o (a c o h)
theorem aT.free{H H':Hp}(e:aT H H'){l:Addr}(h:H' l=Option.none):H l=Option.none:=by
 cases q:H l with
 |none=>rfl
 |some o =>rw[e l o q] at h;cases h
theorem aT.seq{K:PySem.W.Frag}{H H':Hp}{a:Addr}{xs:List V}(e:aT H H')(h:eJ K H a xs):eJ K H' a xs:=by
 rcases h with(h|⟨o,h⟩)|h
 ·exact .inl (.inl (e _ _ h))
 ·exact .inl (.inr ⟨o,e _ _ h⟩)
 ·exact .inr h
end L2
set_option maxHeartbeats 4000000
namespace L2
open PySem PySem.Spec PyProof.Rows
def kQ(env:Env):List (Str × NameKind)->List (Str × Addr)->List (Str × Addr)
 |[],cs=>cs
 | (n,k) :: r,cs=>kQ env r (if k == NameKind.free then (n,(env.cells.lookup n).getD 0) :: cs else cs)
theorem jz(env:Env):∀ (names:List (Str × NameKind)) (cs:List (Str × Addr)),(∀ y∈names,y.2=.free->∃ c,env.cells.lookup y.1=some c) -> (forIn names cs λx r=>match x with
   | (name,kind)=>if (kind == NameKind.free)=true then do let a <- cellOf env name;pure (ForInStep.yield ((name,a) :: r)) else pure (ForInStep.yield r):Sem (List (Str × Addr)))=pure (kQ env names cs)
 |[],cs,_=>rfl
 | (n,k) :: r,cs,h=>by
  rw[List.forIn_cons];have ih:=jz env r;by_cases hk:k=.free
  ·subst hk;obtain⟨c,e⟩:=h (n,.free) dv rfl;have e:env.cells.lookup n=some c:=e;have e2:cellOf env n=pure c:=by unfold cellOf;rw[e]
   have e3:kQ env ((n,.free) :: r) cs=kQ env r ((n,c) :: cs):=by show kQ env r (if (NameKind.free == NameKind.free)=true then (n,(env.cells.lookup n).getD 0) :: cs else cs)=_;rw[e];rfl
   rw[e3,<- ih ((n,c) :: cs) λy hy=>h y (cK _ hy)];simp only[beq_self_eq_true,if_true,e2];rfl
  ·have hb:(k == NameKind.free)=false:=by simpa using hk
   have e3:kQ env ((n,k) :: r) cs=kQ env r cs:=by show kQ env r (if (k == NameKind.free)=true then _ else cs)=_;rw[hb];rfl
   rw[e3,<- ih cs λy hy=>h y (cK _ hy)];simp only[hb,gX,if_false];rfl
theorem gk{scope:Scope}{env:Env}(h:∀ y∈scope.names,y.2=.free->∃ c,env.cells.lookup y.1=some c):closureFor scope env=pure (kQ env scope.names []):=by have:=jz env scope.names [] h;unfold closureFor;rw[<- bind_pure (forIn scope.names [] _)] at this;exact this
theorem jA{env:Env}{x:Str}{c:Addr}:∀ {names:List (Str × NameKind)} {cs:List (Str × Addr)},(∀ y∈names,y.2=.free->∃ c,env.cells.lookup y.1=some c)->(∀ y d,cs.lookup y=some d->env.cells.lookup y=some d) -> (kQ env names cs).lookup x=some c->env.cells.lookup x=some c
 |[],cs,_,h,e=>h x c e
 | (n,k) :: r,cs,hf,h,e=>by
  refine jA (names:=r) (λy hy=>hf y (cK _ hy)) ?_ e;intro y d hd;by_cases hk:k=.free
  ·subst hk;obtain⟨c',e'⟩:=hf (n,.free) dv rfl;have e':env.cells.lookup n=some c':=e';simp only[beq_self_eq_true,if_true,e',Option.getD_some,Ug] at hd
   cases hb:y == n with
   |true=>rw[hb] at hd;have:y=n:=eq_of_beq hb;subst this;rw[e'];exact hd
   |false=>rw[hb] at hd;exact h y d hd
  ·have hb:(k == NameKind.free)=false:=by simpa using hk
   simp only[hb,gX,if_false] at hd;exact h y d hd
theorem gZ{env:Env}{x:Str}:∀ {names:List (Str × NameKind)} {cs:List (Str × Addr)},((x,NameKind.free)∈names\/∃ c,cs.lookup x=some c)->∃ c,(kQ env names cs).lookup x=some c
 |[],cs,h=>by
  rcases h with h|h
  ·exact nomatch h
  ·exact h
 | (n,k) :: r,cs,h=>by
  refine gZ (names:=r) ?_;rcases h with h|⟨c,h⟩
  ·rcases dc.mp h with e|h
   ·cases e;refine .inr ⟨(env.cells.lookup x).getD 0,?_⟩;simp only[beq_self_eq_true,if_true,Ug]
   ·exact .inl h
  ·refine .inr ?_;by_cases hk:(k == NameKind.free)=true
   ·simp only[hk,if_true,Ug]
    cases hb:x == n with
    |true=>exact⟨_,rfl⟩
    |false=>exact⟨c,h⟩
   ·simp only[hk,if_false];exact⟨c,h⟩
def aJ(X:Cx)(scope:Scope)(C:Addr)(N:List Str)(fp:List Addr)(cf:Shared)(cq:Hp):Cx :=
 { X with N:=N,df:=cf,qf:=cq,env:=compEnvC scope (kQ X.env scope.names []) C X.env,outer:=X.stack,stack:=X.stack,ex:=fp,fn:=λ_=>false,pn:=[],xe:=λ_ _=>False }
def tS(X:Cx)(ifs:List Expr)(t:TT):Prop :=
 ∀ (pins:List (Addr × Obj)) (s:Shared) (σ:St) (H:Hp) (Q:Bool->Hp->Prop),Inv X pins σ H s->t σ H Q ->
  wpAny (model X.prog X.w) X.A (forIn ifs true λc r=>if r=true then do let ok <- isTrue c X.env (eval c X.env);pure (ForInStep.yield ok) else pure (ForInStep.yield r)) (TP X pins σ Q) X.xe s
def jn':TT:=λ_ H Q=>Q true H
theorem Hh{X:Cx}:tS X [] jn':=λ_ _ _ H _ I h=>wpAny_tests_nil ⟨H,I,h⟩
theorem Gn{X:Cx}{c:Expr}{t:TT}(h:PT X c t):tS X [c] t:=λpins s σ H Q I hw=>wpAny_tests_one (h pins s σ H Q I hw)
theorem cB{prog:Program}{w:World}{A:Around}{R:Result->Shared->Prop}{s:Shared}{elt target iter:Expr}{ifs:List Expr}{scope:Scope}{pos:Pos}{it acc:Value}{env:Env}(I:Nat->Shared->Prop)(E:Value->Shared->Prop)(turn:∀ n s,I n s->wpAny (model prog w) A (pyNext it) (λr eh=>match r with
   |none=>R (.ok .next) eh
   |some v=>wpAny (model prog w) A (letOwnedTupleGo target it v) (λ_ df=>wpAny (model prog w) A (assign target env v) (λ_ EJ =>
     wpAny (model prog w) A (forIn ifs true λc r=>if r=true then do let ok <- isTrue c env (eval c env);pure (ForInStep.yield ok) else pure (ForInStep.yield r)) (λok cf =>
      if ok=true then wpAny (model prog w) A (eval elt env) (λx co' =>
       wpAny (model prog w) A (call (.builtin "list.append") [acc,x]) (λ_ cp'=>∃ m,m<n/\I m cp') E co') E cf
      else ∃ m,m<n/\I m cf) E EJ) E df) E eh) E s)
  (hE:∀ e s',E e s'->notedBy (model prog w) A env (λe s'=>R (.error e) s') e s')
  (n:Nat) (h:I n s) :
  codeAny (model prog w) A (.compLoop (.ListComp elt [⟨target,iter,ifs,0⟩] scope pos) 0 it acc env) R s:=by
 refine codeAny_loop rfl I (λn s hI=>?_) n h;show wpAny _ A ((compTurn (.ListComp elt [⟨target,iter,ifs,0⟩] scope pos) 0 it acc env).onRaise (λx=>do noteFrame x env;theTreesLotGoes x)) _ _ s;refine wpAny_noted ?_;rw[compTurn_list];refine rj (Q:=_) (E:=E) ?_ (λ_ _ q=>q) hE;refine ai (wpAny_standAt (ai (rj (turn n s hI) (λr eh x5=>?_) λ_ _ h'=>h')))
 cases r with
 |none=>exact aE x5
 |some v =>
  refine ai (rj x5 (λ_ df h₀=>?_) λ_ _ h'=>h');refine ai (rj h₀ (λ_ EJ jo'=>ai (rj jo' (λok cf cq'=>?_) λ_ _ h'=>h')) λ_ _ h'=>h')
  cases ok with
  |false=>exact aE ⟨rfl,cq'⟩
  |true =>exact ai (ai (rj cq' (λx co' jp'=>ai (rj jp' (λ_ cp' jq'=>aE (aE ⟨rfl,jq'⟩)) λ_ _ h'=>h')) λ_ _ h'=>h'))
def eQ(tn:Nat)(ix:List Nat)(σ:St):St:=List.replicate tn none++ix.map λj=>(σ[j]?).join
def qO(wi:TI)(g:TG)(tc:TT)(te:TE)(tn:Nat)(ix:List Nat):TE:=λσ H Q=>wi σ H λJ H1=>∀ D,H1 D=none ->
 ∃ W:Nat->Nat->St->Hp->Prop,(∃ m,W 0 m (eQ tn ix σ) (upd H1 D (.lst [])))/\∀ i m τ H,W i m τ H -> (J.stop i H/\Q (.ref D) H)\/(J.go i H/\∃ (N1:St->V->Hp->Prop) (N2:St->Hp->Prop), (∀ lT v H4,N1 lT v H4->∃ ys m',H4 D=some (.lst ys)/\ys.length<sizeLine/\m'<m/\W (i+1) m' lT (upd H4 D (.lst (ys++[v])))) /\ (∀ lT H3,N2 lT H3->∃ m',m'<m/\W (i+1) m' lT H3) /\
   ∀ x H',J.kM i H x H'->g x τ H' λlT H2=>tc lT H2 λb H3=>if b=true then te lT H3 (N1 lT) else N2 lT H3)
section
variable {X:Cx}{tg iter elt:Expr}{ifs:List Expr}{scope:Scope}{pos:Pos}{wi:TI}{g:TG}{tc:TT}{te:TE}{tn cn:List Str}{ix:List Nat}
structure cG(X:Cx)(scope:Scope)(tn cn:List Str)(ix:List Nat):Prop where
 kind:scope.kind=.function
 UU:∀ y∈scope.names,y.2≠.cell
 free:∀ y∈scope.names,y.2=.free->X.env.scope.names.lookup y.1=some .cell\/X.env.scope.names.lookup y.1=some .free
 names:∀ y∈scope.names,y.2=.local->scope.names.lookup y.1=some .local
 len:ix.length=cn.length
 cap:∀ (k j:Nat),ix[k]? = some j->∃ y,cn[k]? = some y/\X.N[j]? = some y/\(X.env.scope.names.lookup y=some .cell\/X.env.scope.names.lookup y=some .free)/\(y,NameKind.free)∈scope.names /\
  ((relabel scope X.env).names.lookup y=some .cell\/(relabel scope X.env).names.lookup y=some .free)
 all:∀ x,(relabel scope X.env).names.lookup x=some .cell\/(relabel scope X.env).names.lookup x=some .free->(x,NameKind.free)∈scope.names
theorem n6{pins:List (Addr × Obj)}{σ:St}{H:Hp}{s:Shared}{fp:List Addr}{C:Addr}(O:cG X scope tn cn ix)(I:Inv X pins σ H s)(hf:∀ b∈fp,kN X pins H b)(UW:∀ b∈fp,b<s.heap.objs.size)(hC:s.heap.objs.size<=C) : (aJ X scope C (tn++cn) fp s H).Ok:=by
 have i6:∀ y∈scope.names,y.2=.free->∃ c,X.env.cells.lookup y.1=some c:=λy hy hk=>I.ok.has y.1 (O.free y hy hk);have sub:∀ x c,(kQ X.env scope.names []).lookup x=some c->X.env.cells.lookup x=some c:=λx c e=>jA i6 (λy d h=>by simp at h) e;refine⟨I.ok.mod,O.kind,I.ok.glob,I.ok.blt,hC,λx y c h1 h2=>I.ok.inj x y c (sub x c h1) (sub y c h2),λx hx=>gZ (.inl (O.all x hx)),(λx c h _=>nomatch h),I.ok.hd,I.ok.frames,.inl rfl,λb hb=>⟨?_,λx c e=>?_⟩,
  I.bs,fP I.ok.tq I.sz,λb o e hb=>?_,λb hb=>?_,I.stack,I.Us⟩
 ·exact eL (lP (UW b hb) hC)
 ·exact(hf b hb).2.2.2.2.1 x c (sub x c e)
 ·rcases (hf b hb).2.2.2.1 with z|z
  ·exact I.ok.zh b o e z
  ·exact absurd (lP (da e) (fP I.ok.tq z)) (oi _)
 ·intro hz;rcases dc.mp (I.RV b hz) with e|e
  ·exact(hf b hb).2.1 e
  ·exact(hf b hb).2.2.1 e
theorem DR{MZ:Pos}{use:Option (Value->Sem Unit)}{P:Value->Shared->Prop}(hc:X.calm=true)(hi:PI X tg iter wi)(O:cG X scope tn cn ix)(hg:∀ C fp cf cq,PG (aJ X scope C (tn++cn) fp cf cq) tg g) (mI:∀ C fp cf cq,tS (aJ X scope C (tn++cn) fp cf cq) ifs tc) (he:∀ C fp cf cq,PE (aJ X scope C (tn++cn) fp cf cq) elt te)(hs:∀ x,foldedSetIterable iter X.env x=pure x) {pins:List (Addr × Obj)} {s:Shared} {σ:St} {H:Hp} {Q:V->Hp->Prop} (I:Inv X pins σ H s) (h:qO wi g tc te tn.length ix σ H Q)(fin:∀ (C D:Addr) (m:Str->Option Value) (H5:Hp) (s6:Shared) (r:Flow),Inv X pins σ H5 s6->s6.heap.Ns C m->H5 C=none->kN X pins H5 C->Q (.ref D) H5->compPost (model X.prog X.w) X.A X.xe use P (.ref D) C (.ok r) s6) :
  wpAny (model X.prog X.w) X.A (comprehension (.ListComp elt [⟨tg,iter,ifs,0⟩] scope pos) scope X.env MZ (newList []) false (eval iter X.env) use) P X.xe s:=by
 have i6:∀ y∈scope.names,y.2=.free->∃ c,X.env.cells.lookup y.1=some c:=λy hy hk=>I.ok.has y.1 (O.free y hy hk);have sub:∀ x c,(kQ X.env scope.names []).lookup x=some c->X.env.cells.lookup x=some c:=λx c e=>jA i6 (λy d h=>by simp at h) e;walk_at"F";obtain⟨it,fp,pj,J,H2,e,I2,T,mE,f2,h2⟩:=h2;subst e;walk_at"G";refine wpAny_newObj_type ?_;walk_at"d";generalize hD:s2.heap.objs.size=D at *
 generalize DF:({ s2 with heap:=s2.heap.push { cls:=.type "list",data:=.seq ([]:List Value).toArray } }:Shared)=s3 at *
 have AZ:∀ b o,s2.heap.get? b=some o->s3.heap.get? b=some o:=λb o e=>by rw[<- DF];exact dA _ e
 have sz3:s3.heap.objs.size=D+1:=by rw[<- DF,<- hD];exact LM ..
 have f3:∀ b∈fp,kN X pins (upd H2 D (.lst [])) b:=λb hb=>by obtain⟨f0,fr⟩:=f2 b hb;walk_at"bg";refine⟨?_,fr⟩;walk_at"ba";exact f0
 have kP:pj 0 s3.heap:=T.keep _ _ _ mE λb hb o e=>AZ b o e;have M0:∀ b∈fp,b<s3.heap.objs.size:=λb hb=>by obtain⟨o,ho,_⟩:=T.obj _ _ kP b hb;exact da ho
 walk_at"w";have kE:∀ b o,s3.heap.get? b=some o->x5.get? b=some o:=λb o e=>Nn.extBut b o (eL (da e)) (dA _ e)
 -- the block's context
 have sj:=n6 (C:=s3.heap.objs.size) O I3 f3 M0 (bE _);have I4:Inv (aJ X scope s3.heap.objs.size (tn++cn) fp s3 (upd H2 D (.lst []))) [] (eQ tn.length ix σ) (upd H2 D (.lst [])) { s3 with heap:=x5,toks:=s3.toks+([]:List (Str × Value)).length }:=by
  walk_at"p"
  ·have js:tn.length<=i:=by
    by_cases q:i<tn.length
    ·unfold eQ at e2;rw[BQ (by simpa using q),KG] at e2;simp[q] at e2
    ·exact qa ‹_›
   unfold eQ at e2;rw[vF (by simpa using js),KS,lI] at e2;have e1:(tn++cn)[i]? = some x:=e1;rw[vF js] at e1
   cases q:ix[i-tn.length]? with
   |none=>rw[q] at e2;cases e2
   |some j =>
    rw[q] at e2;walk_at"aJ";rw[c1] at e1;cases e1;walk_at"aw";have ej:σ[j]? = some (some v):=by
     cases z:σ[j]? with
     |none=>rw[z] at e2;cases e2
     |some o=>rw[z] at e2;exact congrArg some e2
    obtain⟨m,hn,hl⟩:=I3.loc;walk_at"v";refine⟨u,r,.inr ⟨c5,?_⟩⟩;rcases l with⟨hk,_⟩|⟨hk,c,Ct,Nw⟩
    ·walk_at"al";rcases c3 with z|z
     ·rw[z] at hk;cases hk
     ·rw[z] at hk;cases hk
    ·walk_at"aa";have:=sub x c' rS;rw[Ct] at this;cases this;obtain⟨o,ho,hd⟩:=Nw;exact⟨c,rS,o,kE _ _ ho,hd⟩
  ·walk_at"av";exact⟨v,o,kE _ _ ho,hd⟩
  ·walk_at"ap";unfold eQ;simp[O.len]
 -- from the block back to the body
 have back:∀ {τ:St} {H':Hp} {s':Shared},Inv (aJ X scope s3.heap.objs.size (tn++cn) fp s3 (upd H2 D (.lst []))) [] τ H' s'->Inv X pins σ H' s':=λ{τ H' s'} I' =>
  Inv.R0 (ch:=fp) I3 I'.os I'.base I'.aS I'.bare λb hb=>by obtain⟨_,f1,_,EK,f4,f5⟩:=f3 b hb;exact⟨EK,f1,f4,f5⟩
 have x6:∀ {H':Hp},(∀ b∈fp,H' b=none)->∀ b∈fp,kN (aJ X scope s3.heap.objs.size (tn++cn) fp s3 (upd H2 D (.lst []))) [] H' b:=λhn b hb =>
  ⟨hn b hb,(sj.tj b hb).1,sj.wo b hb,.inl hb,(sj.tj b hb).2,λp hp=>absurd hp (by simp[aJ])⟩
 have loop:∀ s4:Shared,Inv (aJ X scope s3.heap.objs.size (tn++cn) fp s3 (upd H2 D (.lst []))) [] (eQ tn.length ix σ) (upd H2 D (.lst [])) s4->pj 0 s4.heap ->
   codeAny (model X.prog X.w) X.A (.compLoop (.ListComp elt [⟨tg,iter,ifs,0⟩] scope pos) 0 (.ref it) (.ref D) (compEnvC scope (kQ X.env scope.names []) s3.heap.objs.size X.env)) (compPost (model X.prog X.w) X.A X.xe use P (.ref D) s3.heap.objs.size) s4:=by
  intro s4 I4 px;walk_at"f"
  walk_at"bc";rcases turn i n τ H5 w5 with⟨stop,qn⟩|⟨go,N1,N2,NC,ND,step⟩
  ·refine bX (T.done (aJ X scope s3.heap.objs.size (tn++cn) fp s3 (upd H2 D (.lst []))) rfl rfl rfl hc i [] s5 τ H5 (λ_ _=>False) I5 (x6 zk) tF stop) λr s6 ck=>?_;obtain⟨hr,I6⟩:=ck;subst hr;have J6:=back I6;obtain⟨m,hn,_⟩:=I6.loc;walk_at"r"
  ·refine bX (T.item (aJ X scope s3.heap.objs.size (tn++cn) fp s3 (upd H2 D (.lst []))) rfl rfl rfl hc i [] s5 τ H5 (λ_ _=>False) I5 (x6 zk) tF go) λr s6 ck=>?_;obtain⟨u,hr,h6⟩:=ck;subst hr;refine bX h6 λ_ s7 ck=>?_;obtain⟨x,H7,I7,r7,y7,tT,EL⟩:=ck;walk_at"aK";refine bX (hg _ _ _ _ _ s7 τ H7 x u _ NF r7 (step x H7 y7)) λ_ s8 ck=>?_;obtain⟨mP,H8,I8,q8⟩:=ck;refine bX (mI _ _ _ _ _ s8 mP H8 _ I8 q8) λok s9 ck=>?_;obtain⟨H9,I9,q9⟩:=ck;have again:∀ {s':Shared} {H':Hp} {m':Nat},Inv (aJ X scope s3.heap.objs.size (tn++cn) fp s3 (upd H2 D (.lst []))) ([]++EI fp s7.heap) mP H' s'->m'<n->W (i+1) m' mP H' ->
     ∃ m,m<n/\∃ i τ H',Inv (aJ X scope s3.heap.objs.size (tn++cn) fp s3 (upd H2 D (.lst []))) [] τ H' s'/\pj i s'.heap/\(∀ b∈fp,H' b=none)/\W i m τ H':=λ{s' H' m'} J hm w'=>by
    walk_at"j";walk_at"bj";walk_at"ax"
   cases ok with
   |false =>rw[if_neg hU] at q9 ⊢;obtain⟨m',hm,w'⟩:=ND _ _ q9;exact again I9 hm w'
   |true =>rw[if_pos rfl] at q9 ⊢;refine bX (he _ _ _ _ _ s9 mP H9 _ I9 q9) λx9 NH b6=>L2.fe b6 λv10 DH NJ ER NM=>?_;obtain⟨ys,m',hH,hz,hm,w'⟩:=NC _ _ _ NM;refine bX (Sf _ NH mP DH (.ref D) [v10] (.ref D) [x9] (λ_ H'=>H'=upd DH D (.lst (ys++[v10]))) NJ rfl (.cons ER .nil) ⟨D,ys,v10,rfl,rfl,hH,hz,rfl⟩) λ_ s11 b6=>L2.fe b6 λ_ H11 NR _ NS=>?_;subst NS;exact again NR hm w'
 walk_at"c"
theorem G_(hc:X.calm=true)(hi:PI X tg iter wi)(O:cG X scope tn cn ix)(hg:∀ C fp cf cq,PG (aJ X scope C (tn++cn) fp cf cq) tg g) (mI:∀ C fp cf cq,tS (aJ X scope C (tn++cn) fp cf cq) ifs tc) (he:∀ C fp cf cq,PE (aJ X scope C (tn++cn) fp cf cq) elt te)(hs:∀ x,foldedSetIterable iter X.env x=pure x:=by intro _;rfl):PE X (.ListComp elt [⟨tg,iter,ifs,0⟩] scope pos) (qO wi g tc te tn.length ix):=by
 walk_at"x";rw[eval_ListComp];refine DR (use:=none) (P:=EP X pins σ Q) hc hi O hg mI he hs I h λC D m H5 s6 r J6 hn hf ⟨_,g1,_,g3,g4,g5⟩ qn=>⟨m,hn,λh' HP=>⟨.ref D,H5,?_,rfl,qn⟩⟩
 walk_at"A"
end
def HV (a b:String):Bool:=a == b || (a == "bool" && b == "int")
def UX (b:String):Bool:=["str", "int", "bool", "list", "tuple", "dict"].contains b
theorem lH (K:PySem.W.Frag) (a b:String) (ha:a∈["NoneType", "bool", "int", "str", "list", "tuple", "dict"]) (hb:b∈["str", "int", "bool", "list", "tuple", "dict"]):PySem.W.kitOne K (.type a) (.type b)=some (HV a b):=by simp only[dc,xo,or_false] at ha hb;rcases ha with rfl|rfl|rfl|rfl|rfl|rfl|rfl<;>rcases hb with rfl|rfl|rfl|rfl|rfl|rfl<;>kernel_rfl
section
variable {X:Cx}
theorem cx.imp{f:Value->Value->Sem Value}{r r':R2}(h:cx X f r)(hi:∀ x y H Q,r' x y H Q->r x y H Q):cx X f r' :=
 λpins s σ H x y v u Q I rx ry q=>h pins s σ H x y v u Q I rx ry (hi x y H Q q)
def K5(K:PySem.W.Frag):R2:=λx y H Q=>∃ l b xs zs,x=.ref l/\y=.ref b/\eJ K H l xs/\eJ K H b zs/\xs.length+zs.length<=sizeLine/\∀ p,H p=none->Q (.ref p) (upd H p (.lst (xs++zs)))
theorem Ha:cx X (binaryOp .Add) (K5 X.K):=by
 walk_at"e";obtain⟨l,b,xs,zs,rfl,rfl,hH,hB,hz,q⟩:=h;cases rx;cases ry;obtain⟨its,r,pl,z⟩:=I.list hH;obtain⟨Sd,r2,pl2,z2⟩:=I.list hB;have hl:=r.length;have HZ:=r2.length;obtain⟨⟨cls,dd,data,sl⟩,ho,hc,n,hd⟩:=id pl.isList;obtain⟨⟨hR',R8,data2,R9⟩,tI,AW,n2,hd2⟩:=id pl2.isList;simp only at hc hd AW hd2;subst hc hd AW hd2;have ea:its.toArray++Sd.toArray=(its++Sd).toArray:=by simp
 refine concat_meets ⟨_,ho,rfl⟩ ⟨_,tI,rfl⟩ noFill_list_add seq_list_add PySem.F.slot_list_add PySem.F.entry_list_add (PySem.F.args_list_add_2 _ _) (list_addW l b its.toArray Sd.toArray n n2 dd R8 sl R9 (by simp only[i5];lia)) ⟨ho,tI,?_⟩;rw[ea];exact⟨.ref _,_,I.MG (t':=s.toks) (r.append r2) (by rw[kK];lia),rfl,q _ I.fresh⟩
def Ei(K:PySem.W.Frag):R2:=λx y H Q=>match x,y with
 |.int i,.int j=>Q (.int (i+j)) H
 |.str i,.str j=>i.length+j.length<=sizeLine/\Q (.str (i++j)) H
 |.ref a,.ref b=>∃ xs zs,eJ K H a xs/\eJ K H b zs/\xs.length+zs.length<=sizeLine/\∀ p,H p=none->Q (.ref p) (upd H p (.lst (xs++zs)))
 |_,_=>False
theorem zU:cx X (binaryOp .Add) (Ei X.K):=by
 refine(gI'.or (hx'.or Ha)).imp λx y H Q h=>?_;unfold Ei at h;split at h
 ·exact .inl ⟨_,_,rfl,rfl,h⟩
 ·exact .inr (.inl ⟨_,_,rfl,rfl,h.1,h.2⟩)
 ·obtain⟨xs,zs,h1,h2,h3,h4⟩:=h;exact .inr (.inr ⟨_,_,xs,zs,rfl,rfl,h1,h2,h3,h4⟩)
 ·exact h.elim
def Gz:R2:=λx y H Q=>match x,y with
 |.int i,.int j=>Q (.int (i-j)) H
 |_,_=>False
theorem Gu:cx X (binaryOp .Sub) Gz:=gJ'.imp λx y H Q h=>by
 unfold Gz at h;split at h
 ·exact⟨_,_,rfl,rfl,h⟩
 ·exact h.elim
def Hz:R2:=λx y H Q=>match x,y with
 |.int i,.int j=>G0 i j/\Q (.int (i*j)) H
 |_,_=>False
theorem Gx:cx X (binaryOp .Mult) Hz:=gK'.imp λx y H Q h=>by
 unfold Hz at h;split at h
 ·exact⟨_,_,rfl,rfl,h.1,h.2⟩
 ·exact h.elim
def GQ:R2:=λx y H Q=>match x,y with
 |.int i,.int j=>(0<j/\j<1073741824)/\Q (.int (i / j)) H
 |_,_=>False
theorem HN:cx X (binaryOp .FloorDiv) GQ:=gL'.imp λx y H Q h=>by
 unfold GQ at h;split at h
 ·exact⟨_,_,rfl,rfl,h.1,h.2⟩
 ·exact h.elim
def Hw:R2:=λx y H Q=>match x,y with
 |.int i,.int j=>0<j/\Q (.int (i % j)) H
 |_,_=>False
theorem Fp:cx X (binaryOp .Mod) Hw:=gM'.imp λx y H Q h=>by
 unfold Hw at h;split at h
 ·exact⟨_,_,rfl,rfl,h.1,h.2⟩
 ·exact h.elim
def ov(x y:Str):Bool:=decide (x.cps.toList<y.cps.toList)
def UY:R2:=λx y H Q=>match x,y with
 |.int i,.int j=>Q (.bl (decide (i<j))) H
 |.str i,.str j=>Q (.bl (ov i j)) H
 |_,_=>False
theorem m5:cx X (compareOp .Lt) UY:=(gR'.or gV').imp λx y H Q h=>by
 unfold UY at h;split at h
 ·exact .inl ⟨_,_,rfl,rfl,h⟩
 ·exact .inr ⟨_,_,rfl,rfl,h⟩
 ·exact h.elim
theorem zV:cx X (compareOp .LtE) (λx y H Q=>∃ i j,x=.str i/\y=.str j/\Q (.bl (!ov j i)) H):=by intro pins s σ H x y v u Q I rx ry h;obtain⟨i,j,rfl,rfl,q⟩:=h;obtain⟨t,rfl⟩:=rx;obtain⟨t',rfl⟩:=ry;exact PySem.P.le_str ⟨.bl _,H,I,rfl,q⟩
def UZ:R2:=λx y H Q=>match x,y with
 |.int i,.int j=>Q (.bl (decide (i<=j))) H
 |.str i,.str j=>Q (.bl (!ov j i)) H
 |_,_=>False
theorem fY:cx X (compareOp .LtE) UZ:=(gS'.or zV).imp λx y H Q h=>by
 unfold UZ at h;split at h
 ·exact .inl ⟨_,_,rfl,rfl,h⟩
 ·exact .inr ⟨_,_,rfl,rfl,h⟩
 ·exact h.elim
def U0:R2:=λx y H Q=>match x,y with
 |.int i,.int j=>Q (.bl (decide (j<i))) H
 |_,_=>False
theorem ql:cx X (compareOp .Gt) U0:=gT'.imp λx y H Q h=>by
 unfold U0 at h;split at h
 ·exact⟨_,_,rfl,rfl,h⟩
 ·exact h.elim
def U4:R2:=λx y H Q=>match x,y with
 |.int i,.int j=>Q (.bl (decide (j<=i))) H
 |_,_=>False
theorem Er:cx X (compareOp .GtE) U4:=gU'.imp λx y H Q h=>by
 unfold U4 at h;split at h
 ·exact⟨_,_,rfl,rfl,h⟩
 ·exact h.elim
theorem Inv.rd{pins:List (Addr × Obj)}{σ:St}{H:Hp}{s:Shared}{a:Addr}{u:HO}(I:Inv X pins σ H s)(e:Rd H a u):fh X.prog X.w H s.heap a u:=e.elim (I.aS a _) λ⟨o,e⟩=>(show fh X.prog X.w H s.heap a (.mB o u) from I.aS a _ e).2
def Sq(K:PySem.W.Frag):List V->Hp->VK->Prop:=λxs H Q=>match xs with
 |[.str y]=>y.length<=sizeLine/\Q (.int y.length) H
 |[.ref p]=>(∃ ys,eJ K H p ys/\Q (.int ys.length) H)\/(∃ ys,ke K H p ys/\Q (.int ys.length) H)\/∃ ae,Rd H p (.dK ae)/\Q (.int ae.length) H
 |_=>False
theorem zR:i9 X (.builtin "len") (Sq X.K):=by
 walk_at"o";unfold Sq at h;split at h
 ·exact UE pins s σ H _ us Q I r ⟨_,_,rfl,⟨h.1,rfl⟩,h.2⟩
 ·rcases h with⟨ys,h1,h2⟩|⟨ys,h1,h2⟩|⟨ae,h1,h2⟩
  ·exact UE pins s σ H _ us Q I r ⟨_,_,rfl,.inl ⟨ys,h1,rfl⟩,h2⟩
  ·exact UE pins s σ H _ us Q I r ⟨_,_,rfl,.inr ⟨ys,h1,rfl⟩,h2⟩
  ·obtain⟨u,rfl,ru⟩:=vals1 r;cases ru;exact iQ' I h1 λt s' I'=>⟨.int ae.length,H,I',⟨t,rfl⟩,h2⟩
 ·exact h.elim
def Sr(K:PySem.W.Frag):R2:=λx y H Q=>match x,y with
 |.ref p,.int i=>(∃ xs v,eJ K H p xs/\fv xs i=some v/\Q v H)\/∃ xs v,ke K H p xs/\fv xs i=some v/\Q v H
 |.str z,.int i=>z.length<=sizeLine/\∃ c,fv z.cps.toList i=some c/\Q (.str ⟨#[c]⟩) H
 |_,_=>False
theorem Fd:tJ X (Sr X.K):=by
 walk_at"H";refine is' value slice pins s σ H x y v u Q I rx ry ?_ hs;unfold Sr at h;split at h
 ·rcases h with⟨xs,w,h1,h2,h3⟩|⟨xs,w,h1,h2,h3⟩
  ·exact .inl ⟨_,xs,_,w,rfl,rfl,h1,h2,h3⟩
  ·exact .inr (.inl ⟨_,xs,_,w,rfl,rfl,h1,h2,h3⟩)
 ·obtain⟨h1,c,h2,h3⟩:=h;exact .inr (.inr ⟨_,_,c,rfl,rfl,h1,h2,h3⟩)
 ·exact h.elim
def gu(z:Str)(lo hi:Option Int):Str:=⟨((z.cps.toList.drop (HT.bI z.length 0 lo)).take (HT.bI z.length z.length hi-HT.bI z.length 0 lo)).toArray⟩
end
theorem Aj(l:List Nat)(lo hi:Option Int)(h:((l.drop (HT.bI l.length 0 lo)).take (HT.bI l.length l.length hi-HT.bI l.length 0 lo)).length=l.length) : (l.drop (HT.bI l.length 0 lo)).take (HT.bI l.length l.length hi-HT.bI l.length 0 lo)=l:=by
 generalize HT.bI l.length 0 lo=a at *
 generalize HT.bI l.length l.length hi=b at *
 by_cases hl:l.length=0
 ·have:l=[]:=KL.mp hl;subst this;simp
 ·rw[nv,AH] at h;have h1:a=0:=by lia
  subst h1;rw[List.drop_zero];exact FL (by lia)
theorem BP(lo hi:Option Int)(n:Nat):Builtin.Str.strSliceIndices lo hi 1 n=(List.range (HT.bI n n hi-HT.bI n 0 lo)).map (HT.bI n 0 lo + ·):=by
 unfold Builtin.Str.strSliceIndices;have e1:(match lo with|none=>(0:Int)|some i=>max 0 (min (if i<0 then i+n else i) n))=((HT.bI n 0 lo:Nat):Int):=by
  cases lo with
  |none=>simp[HT.bI]
  |some i =>
   simp only[HT.bI];by_cases h:i<0
   ·simp only[h,if_true]<;>lia
   ·simp only[h,if_false]<;>lia
 have e2:(match hi with|none=>(n:Int)|some i=>max 0 (min (if i<0 then i+n else i) n))=((HT.bI n n hi:Nat):Int):=by
  cases hi with
  |none=>simp[HT.bI]
  |some i =>
   simp only[HT.bI];by_cases h:i<0
   ·simp only[h,if_true]<;>lia
   ·simp only[h,if_false]<;>lia
 rw[<- sliceRange_one,<- e1,<- e2];simp only[show(1:Int)>0 by decide,if_true];cases lo<;>cases hi<;>rfl
section
variable {X:Cx}
theorem part_of{v:Value}{o:Option Int}(h:IsPart v o):∃ p:Option (Int × Tok),v=partValue p/\p.map (·.1)=o:=by
 cases h with
 |none=>exact⟨none,rfl,rfl⟩
 |int i t=>exact⟨some (i,t),rfl,rfl⟩
def U5(K:PySem.W.Frag):V->Option Int->Option Int->Hp->VK->Prop:=λx lo hi H Q=>match x with
 |.str z=>z.length<=sizeLine/\Q (.str (gu z lo hi)) H
 |.ref a=>∃ xs,eJ K H a xs/\∀ p,H p=none->Q (.ref p) (upd H p (.lst (AX xs lo hi)))
 |_=>False
theorem Ji:He X (λx lo hi H Q=>∃ z,x=.str z/\z.length<=sizeLine/\Q (.str (gu z lo hi)) H):=by
 walk_at"C";obtain⟨z,rfl,hz,q⟩:=h;walk_at"K";obtain⟨p1,rfl,e1⟩:=part_of pl;obtain⟨p2,rfl,e2⟩:=part_of pu;refine⟨"str",_,F.slot_str_getitem.lookup,typeIs_str s z t,wpAny_getItem_str_slice (l:=p1) (u:=p2) (st:=none) hs rfl ?_⟩;have hl:z.cps.toList.length=z.length:=by simp[Str.length]
 have ep:slicePicked z p1 p2 none=(List.range (HT.bI z.length z.length hi-HT.bI z.length 0 lo)).map (HT.bI z.length 0 lo + ·):=by unfold slicePicked;rw[e1,e2];exact BP lo hi z.length
 have ef:(slicePicked z p1 p2 none).filterMap (z.cps[·]?)=(z.cps.toList.drop (HT.bI z.length 0 lo)).take (HT.bI z.length z.length hi-HT.bI z.length 0 lo):=by rw[ep];exact pick_run z.cps _ _
 unfold sliceMade;split
 ·rename_i hc;have hw:(slicePicked z p1 p2 none).length=z.length:=by simpa using hc
  have:gu z lo hi=z:=by
   unfold gu;have e3:((z.cps.toList.drop (HT.bI z.cps.toList.length 0 lo)).take (HT.bI z.cps.toList.length z.cps.toList.length hi-HT.bI z.cps.toList.length 0 lo)).length=z.cps.toList.length:=by
    rw[hl,nv,AH,hl];rw[ep,cE,Ue] at hw;have h0:HT.bI z.length 0 lo<=z.length:=by
     cases lo with
     |none=>simp[HT.bI]
     |some i=>simp only[HT.bI];split<;>lia
    have h1:HT.bI z.length z.length hi<=z.length:=by
     cases hi with
     |none=>simp[HT.bI]
     |some i=>simp only[HT.bI];split<;>lia
    lia
   have:=Aj z.cps.toList lo hi e3;rw[hl] at this;rw[this]
  rw[this] at q;exact⟨.str z,H,I,⟨t,rfl⟩,q⟩
 ·rw[ef];exact⟨by
   show(gu z lo hi).length<=sizeLine;unfold gu Str.length;simp only[i5,nv,AH,hl];have:z.cps.toList.length=z.length:=hl;lia,⟨.str (gu z lo hi),H,I.tok _,⟨_,rfl⟩,q⟩⟩
theorem JM:He X (U5 X.K):=by
 walk_at"C";unfold U5 at h;split at h
 ·exact Ji pins s σ H _ v vl vu lo hi sl Q I rx hs pl pu ⟨_,rfl,h.1,h.2⟩
 ·obtain⟨xs,h1,h2⟩:=h;exact ix' pins s σ H _ v vl vu lo hi sl Q I rx hs pl pu ⟨_,xs,rfl,h1,h2⟩
 ·exact h.elim
def NV(z:Str):It:=⟨λi _=>i<z.cps.size,λi H x H'=>H'=H/\∃ c,z.cps[i]? = some c/\x=.str ⟨#[c]⟩,λi _=>z.cps.size<=i⟩
theorem xG {P:Program} {w:World} {K:PySem.W.Frag} {tg:Expr} {it:Addr} {z:Str} {t:Tok} {ty:String} (HK:ty = "str_ascii_iterator"\/ty = "str_iterator") :
  Turn P w K tg (NV z) [it] it (λi h=>h.IsStrIter it ty z t i/\i<=z.cps.size) where
 mem:=by simp
 obj:=λi h st b hb=>by
  have e:b=it:=by simpa using hb
  subst e;obtain⟨⟨o,e,c,d⟩,_⟩:=st;walk_at"aA"
 keep:=λi h h' st k=>let ⟨⟨o,e,c,d⟩,l⟩:=st;⟨⟨o,k it (by simp) o e,c,d⟩,l⟩
 item:=by
  intro X hP hw hK hc i pins s σ H E I hf st hg;subst hP hw hK;obtain⟨f0,f1,f2,f3,f4,f5⟩:=hf it (by simp);obtain⟨st,_⟩:=st;have hg:i<z.cps.size:=hg;have W:Walks X.prog X.w X.A it [it] [it] z.cps.size (SignAt z) (λi h=>h.IsStrIter it ty z t i):=by
   rcases HK with rfl|rfl
   ·exact Walks.strAscii (I.ok.hd hc) it z t
   ·exact Walks.strWide (I.ok.hd hc) it z t
  refine W.item i s _ _ hg st λv h' tk hv ah kk=>?_;obtain⟨c,u,ec,rfl⟩:=hv;have I1:Inv X pins σ H { s with heap:=h',toks:=tk }:=I.turned (λb o hb e=>kk b o (by simpa using hb) e) f0 f1 f3 f4 f5;obtain⟨o,e,c',d⟩:=id ah;exact⟨_,rfl,L5 (s:={ s with heap:=h',toks:=tk }) e c' d (by rcases HK with rfl|rfl<;>decide) ⟨.str ⟨#[c]⟩,H,I1,⟨u,rfl⟩,⟨rfl,c,ec,rfl⟩,⟨ah,hg⟩,λb hb=>(hf b hb).1⟩⟩
 done:=by
  intro X hP hw hK hc i pins s σ H E I hf st hg;subst hP hw hK;obtain⟨f0,f1,f2,f3,f4,f5⟩:=hf it (by simp);obtain⟨st,hle⟩:=st;have hg:z.cps.size<=i:=hg;have e:i=z.cps.size:=LD hle hg;subst e;have W:Walks X.prog X.w X.A it [it] [it] z.cps.size (SignAt z) (λi h=>h.IsStrIter it ty z t i):=by
   rcases HK with rfl|rfl
   ·exact Walks.strAscii (I.ok.hd hc) it z t
   ·exact Walks.strWide (I.ok.hd hc) it z t
  exact W.done s _ _ st λh' tk kk=>⟨rfl,I.turned (λb o hb e=>kk b o (by simpa using hb) e) f0 f1 f3 f4 f5⟩
 self:=λA i s Q E st h=>by
  rcases HK with rfl|rfl
  ·exact wpAny_pyIter_striter_ascii st.1 h
  ·exact wpAny_pyIter_striter_wide st.1 h
theorem Jk{tg l:Expr}{tl:TE}(hl:PE X l tl):PI X tg l (λσ H R=>tl σ H λx H1=>∃ z,x=.str z/\R (NV z) H1):=by
 intro pins s σ H R I h;refine bX (hl pins s σ H _ I h) λv s1 b6=>L2.fe b6 λx H1 I1 r1 q1=>?_;obtain⟨z,rfl,q⟩:=q1;obtain⟨t,rfl⟩:=r1;have fp:∀ b∈[s1.heap.objs.size],kN X pins H1 b:=λb hb=>by
  have e:b=s1.heap.objs.size:=by simpa using hb
  subst e;walk_at"ae"
 cases ha:z.cps.all (· < 128)
 ·exact wpAny_pyIter_wide ha ⟨s1.heap.objs.size,[s1.heap.objs.size],_,_,H1,rfl,I1.kept (t':=s1.toks) λb o e=>dA _ e,xG (.inr rfl),⟨⟨_,gV _ rfl,rfl,rfl⟩,dy _⟩,fp,q⟩
 ·exact wpAny_pyIter_ascii ha ⟨s1.heap.objs.size,[s1.heap.objs.size],_,_,H1,rfl,I1.kept (t':=s1.toks) λb o e=>dA _ e,xG (.inl rfl),⟨⟨_,gV _ rfl,rfl,rfl⟩,dy _⟩,fp,q⟩
end
structure lO(J:It)(its:List V)(cond:Hp->Prop):Prop where
 go:∀ i H,cond H->i<its.length->J.go i H
 kM:∀ i H x H',cond H->i<its.length->J.kM i H x H'->H'=H/\its[i]? = some x
 stop:∀ H,cond H->J.stop its.length H
def Ss(z:Str):List V:=z.cps.toList.map λc=>.str ⟨#[c]⟩
theorem HW(z:Str):lO (NV z) (Ss z) (λ_=>True) where
 go:=λi H _ h=>by simpa[Ss,NV] using h
 kM:=λi H x H' _ _ h=>by obtain⟨rfl,c,e,rfl⟩:=h;refine⟨rfl,?_⟩;unfold Ss;rw[lI,oj,e];rfl
 stop:=λH _=>by simp[Ss,NV]
theorem Di(K:PySem.W.Frag)(a:Addr)(xs:List V):lO (CD K a) xs (λH=>eJ K H a xs) where
 go:=λi H h hi=>⟨xs,xs[i],h,by simp[hi]⟩
 kM:=λi H x H' h _ y=>⟨y.1,y.2 xs h⟩
 stop:=λH h=>⟨xs,h,bE _⟩
theorem Fo(K:PySem.W.Frag)(a:Addr)(xs:List V):lO (Uy K a) xs (λH=>ke K H a xs) where
 go:=λi H h hi=>⟨xs,xs[i],h,by simp[hi]⟩
 kM:=λi H x H' h _ y=>⟨y.1,y.2 xs h⟩
 stop:=λH h=>⟨xs,h,bE _⟩
def Bb(lo:Int)(n:Nat):List V:=(List.range n).map λi=>.int (lo+(i:Nat))
theorem FN(lo:Int)(n:Nat):lO (GW lo n) (Bb lo n) (λ_=>True) where
 go:=λi H _ h=>by simpa[Bb,GW] using h
 kM:=λi H x H' _ hi h=>by
  have hi:i<n:=by simpa[Bb] using hi
  obtain⟨rfl,rfl⟩:=h;refine⟨rfl,?_⟩;simp[Bb,hi]
 stop:=λH _=>by simp[Bb,GW]
def js'(J:It)(g:TG)(tb:TS)(D:Ends)(σ:St)(H:Hp):Prop :=
 ∃ W:Nat->Nat->St->Hp->Prop,(∃ m,W 0 m σ H)/\∀ i m σ H,W i m σ H -> (J.stop i H/\D.nx σ H)\/(J.go i H/\∃ N:St->Hp->Prop,(∀ bq H',N bq H'->∃ m',m'<m/\W (i+1) m' bq H')/\∀ x H',J.kM i H x H'->g x σ H' λkB H2=>tb { D with nx:=N,ct:=N,bk:=D.nx } kB H2)
theorem Fw(wi:TI)(g:TG)(tb:TS)(D:Ends)(σ:St)(H:Hp):by' wi g tb D σ H=wi σ H λJ H1=>js' J g tb D σ H1:=rfl
def K_(J:It)(g:TG)(tc:TT)(te:TE)(τ0:St)(H1:Hp)(D:Addr)(Q:VK):Prop :=
 ∃ W:Nat->Nat->St->Hp->Prop,(∃ m,W 0 m τ0 (upd H1 D (.lst [])))/\∀ i m τ H,W i m τ H -> (J.stop i H/\Q (.ref D) H)\/(J.go i H/\∃ (N1:St->V->Hp->Prop) (N2:St->Hp->Prop), (∀ lT v H4,N1 lT v H4->∃ ys m',H4 D=some (.lst ys)/\ys.length<sizeLine/\m'<m/\W (i+1) m' lT (upd H4 D (.lst (ys++[v])))) /\ (∀ lT H3,N2 lT H3->∃ m',m'<m/\W (i+1) m' lT H3) /\
   ∀ x H',J.kM i H x H'->g x τ H' λlT H2=>tc lT H2 λb H3=>if b=true then te lT H3 (N1 lT) else N2 lT H3)
theorem xW(wi:TI)(g:TG)(tc:TT)(te:TE)(tn:Nat)(ix:List Nat)(σ:St)(H:Hp)(Q:VK):qO wi g tc te tn ix σ H Q=wi σ H λJ H1=>∀ D,H1 D=none->K_ J g tc te (eQ tn ix σ) H1 D Q:=rfl
mutual
inductive Rep(K:PySem.W.Frag)(H:Hp):PyData->V->Prop
 |none:Rep K H .none .non
 |bool (b:Bool):Rep K H (.bool b) (.bl b)
 |int (i:Int):Rep K H (.int i) (.int i)
 |str (x:Str):Rep K H (.str x) (.str x)
 |list {a:Addr} {vs:List V} {ds:List PyData}:eJ K H a vs->bp K H ds vs->Rep K H (.list ds) (.ref a)
 |tuple {a:Addr} {vs:List V} {ds:List PyData}:ke K H a vs->bp K H ds vs->Rep K H (.tuple ds) (.ref a)
inductive bp(K:PySem.W.Frag)(H:Hp):List PyData->List V->Prop
 |nil:bp K H [] []
 |cons {d:PyData} {v:V} {ds:List PyData} {vs:List V}:Rep K H d v->bp K H ds vs->bp K H (d :: ds) (v :: vs)
end
section
variable {X:Cx}{pins:List (Addr × Obj)}{σ:St}{H:Hp}{s:Shared}
mutual
theorem Rep.reads(I:Inv X pins σ H s):∀ {d:PyData} {v:V} {u:Value},Rep X.K H d v->RelV v u->∃ as,Reads s.heap u d as
 |_,_,_,.none,r=>by cases (show _=Value.none from r);exact⟨_,.none⟩
 |_,_,_,.bool b,r=>by cases (show _=Value.bool b from r);exact⟨_,.bool b⟩
 |_,_,_,.int i,r=>by obtain⟨t,e⟩:=r;subst e;exact⟨_,.int i t⟩
 |_,_,_,.str x,r=>by obtain⟨t,e⟩:=r;subst e;exact⟨_,.str x t⟩
 |_,_,_,.list h hs,r=>by cases r;obtain⟨its,rv,pl,_⟩:=I.list h;obtain⟨o,e,c,n,d⟩:=pl.isList;obtain⟨as,q⟩:=bp.reads I hs rv;exact⟨_,.list e c d q⟩
 |_,_,_,.tuple h hs,r=>by cases r;obtain⟨its,rv,⟨o,e,c,n,d⟩,_⟩:=I.tuple h;obtain⟨as,q⟩:=bp.reads I hs rv;exact⟨_,.tuple e c d q⟩
theorem bp.reads(I:Inv X pins σ H s):∀ {ds:List PyData} {vs:List V} {us:List Value},bp X.K H ds vs->Vals vs us->∃ as,ReadsAll s.heap us ds as
 |_,_,_,.nil,.nil=>⟨_,.nil⟩
 |_,_,_,.cons h hs,.cons r rs=>by obtain⟨as,q⟩:=Rep.reads I h r;obtain⟨bs,q'⟩:=bp.reads I hs rs;exact⟨_,.cons q q'⟩
end
def U6(K:PySem.W.Frag):R2:=λx y H Q=>∃ d e,Rep K H d x/\Rep K H e y/\d.canLay0=true/\e.canLay0=true/\d.depth<=60/\Q (.bl (PyData.eqv d e)) H
def U7(K:PySem.W.Frag):R2:=λx y H Q=>∃ d e,Rep K H d x/\Rep K H e y/\d.canLay0=true/\e.canLay0=true/\d.depth<=60/\Q (.bl (!PyData.eqv d e)) H
theorem J0(hu:X.A.units+64<cLine):cx X (compareOp .Eq) (U6 X.K):=by intro pins s σ H x y v u Q I rx ry h;obtain⟨d,e,h1,h2,h3,h4,h5,q⟩:=h;obtain⟨as,r1⟩:=h1.reads I rx;obtain⟨bs,r2⟩:=h2.reads I ry;exact PySem.SeqAt.rcAt_reads r1 r2 h3 h4 (by lia) X.prog X.w X.xe _ ⟨.bl _,H,I,rfl,q⟩
theorem JW(hu:X.A.units+64<cLine):cx X (compareOp .NotEq) (U7 X.K):=by intro pins s σ H x y v u Q I rx ry h;obtain⟨d,e,h1,h2,h3,h4,h5,q⟩:=h;obtain⟨as,r1⟩:=h1.reads I rx;obtain⟨bs,r2⟩:=h2.reads I ry;exact PySem.SeqAt.rcNeAt_reads r1 r2 h3 h4 (by lia) X.prog X.w X.xe _ ⟨.bl _,H,I,rfl,q⟩
def Sv(K:PySem.W.Frag):R2:=λx y H Q=>match x,y with
 |.int i,.int j=>Q (.bl (decide (i=j))) H
 |.str i,.str j=>Q (.bl (decide (i=j))) H
 |.bl i,.bl j=>Q (.bl (decide (i=j))) H
 |_,_=>U6 K x y H Q
theorem Kh(hu:X.A.units+64<cLine):cx X (compareOp .Eq) (Sv X.K):=(gP'.or (J0 hu)).imp λx y H Q h=>by
 unfold Sv at h;split at h
 ·walk_at"aD";simpa using h
 ·walk_at"aD";simpa using h
 ·walk_at"aD";simpa using h
 ·exact .inr h
def Sw(K:PySem.W.Frag):R2:=λx y H Q=>match x,y with
 |.int i,.int j=>Q (.bl (!decide (i=j))) H
 |.str i,.str j=>Q (.bl (!decide (i=j))) H
 |.bl i,.bl j=>Q (.bl (!decide (i=j))) H
 |_,_=>U7 K x y H Q
theorem J_(hu:X.A.units+64<cLine):cx X (compareOp .NotEq) (Sw X.K):=(gQ'.or (JW hu)).imp λx y H Q h=>by
 unfold Sw at h;split at h
 ·walk_at"aD";simpa using h
 ·walk_at"aD";simpa using h
 ·walk_at"aD";simpa using h
 ·exact .inr h
def Sx(K:PySem.W.Frag):List V->Hp->VK->Prop:=λxs H Q=>match xs with
 |[.ref a]=>∃ bs:List Bool,eJ K H a (bs.map V.bl)/\Q (.bl (bs.all id)) H
 |_=>False
theorem z8 (hc:X.calm=true):i9 X (.builtin "all") (Sx X.K):=by
 walk_at"o";unfold Sx at h;split at h
 ·rename_i a;obtain⟨bs,e,q⟩:=h;walk_at"aG";cases ru;obtain⟨its,rv,pl,hz⟩:=I.list e;have hl:s.heap.IsList a its.toArray:=pl.isList;obtain⟨o,ho,RZ,n,EV⟩:=id hl;have hlen:=rv.length;rw[cE] at hlen;refine call_all_walk (wpAny_pyIter_list hl ?_);have kf:a≠s.heap.objs.size:=eL (da ho);have EW:X.A.in1.handled=none:=I.ok.hd hc;refine⟨s.heap.objs.size,_,_,_,_,_,λi=>bs.getD i true,rfl,Walks.list EW s.heap.objs.size a kf its.toArray,⟨⟨_,gV _ rfl,rfl,rfl⟩,⟨_,dA _ ho,RZ,n,EV⟩⟩,?_,λh' tk hk=>?_⟩
  ·intro i v s' Q' E' hv hq;have hv:its.toArray[i]? = some v:=hv;have sq:its[i]? = some v:=by simpa using hv
   have hi:i<bs.length:=by have:=(pT.mp sq).1;lia
   obtain⟨w',e1,r1⟩:=rv.get (i:=i) (x:=V.bl bs[i]) (by simp[hi]);rw[sq] at e1;cases e1;cases (show v=Value.bool bs[i] from r1);have e2:bs.getD i true=bs[i]:=by simp[List.getD,hi]
   have hq:Q' (bs.getD i true) s':=hq;rw[e2] at hq;exact wpAny_truthy_bool hq
  ·have e3:((List.range its.toArray.size).all λi=>bs.getD i true)=bs.all id:=by
    rw[i5,<- hlen];apply y2.mpr;simp only[xt,rq,id];constructor
    ·intro h b hb;obtain⟨i,hi,rfl⟩:=List.mem_iff_getElem.mp hb;have:=h i hi;simpa[List.getD,hi] using this
    ·intro h i hi;have:=h bs[i] (K0 hi);simpa[List.getD,hi] using this
   rw[e3];refine⟨.bl (bs.all id),H,?_,rfl,q⟩;exact I.kept (t':=tk) λb o e=>hk b o (by simp;exact eL (da e)) (dA _ e)
 ·exact h.elim
end
end L2
namespace L2
open PySem PySem.Spec PyProof.Rows
def NW(sc:Scope)(names:List (Str × NameKind)):List (Str × NameKind):=names.map λy=>if (y.2 == NameKind.free && sc.kind == .function && sc.names.lookup y.1 == some .cell)=true then (y.1,NameKind.cell) else (y.1,y.2)
def NX(o:Option NameKind):Bool:=o == some .cell || o == some .free
def Kc(sc scope:Scope)(N cn:List Str)(ix:List Nat):Bool :=
 scope.kind == .function && scope.names.all (λy=>y.2 != .cell) && scope.names.all (λy=>y.2 != .free || NX (sc.names.lookup y.1)) && scope.names.all (λy=>y.2 != .local || scope.names.lookup y.1 == some .local) &&
 ix.length == cn.length && (List.range ix.length).all (λk=>match ix[k]?,cn[k]? with
  |some j,some y=>N[j]? == some y && NX (sc.names.lookup y) && scope.names.contains (y,NameKind.free) && NX ((NW sc scope.names).lookup y)
  |_,_=>false) &&
 (NW sc scope.names).all (λy=>!(y.2 == .cell || y.2 == .free) || scope.names.contains (y.1,NameKind.free))
theorem vQ{o:Option NameKind}(h:NX o=true):o=some .cell\/o=some .free:=by unfold NX at h;simpa using h
theorem cG.of{X:Cx}{sc scope:Scope}{N tn cn:List Str}{ix:List Nat}(rX:X.env.scope=sc)(hN:X.N=N)(h:Kc sc scope N cn ix=true):cG X scope tn cn ix:=by
 unfold Kc at h;simp only[i7] at h;obtain⟨⟨⟨⟨⟨⟨h1,h2⟩,h3⟩,h4⟩,h5⟩,h6⟩,h7⟩:=h;rw[xt] at h2 h3 h4 h6 h7;have erl:(relabel scope X.env).names=NW sc scope.names:=by unfold relabel NW;rw[<- rX];rfl
 refine⟨by simpa using h1,λy hy=>by simpa using h2 y hy,λy hy hk=>?_,λy hy hk=>?_,by simpa using h5,λk j hk=>?_,λx hx=>?_⟩
 ·have:=h3 y hy;rw[hk] at this;rw[rX];exact vQ (by simpa using this)
 ·have:=h4 y hy;rw[hk] at this;walk_at"aI"
 ·have nI:k<ix.length:=(pT.mp hk).1;have:=h6 k (rq.mpr nI);rw[hk] at this
  cases e:cn[k]? with
  |none=>rw[e] at this;cases this
  |some y =>rw[e] at this;simp only[i7] at this;obtain⟨⟨⟨a1,a2⟩,a3⟩,a4⟩:=this;refine⟨y,rfl,by rw[hN];simpa using a1,by rw[rX];exact vQ a2,by simpa using a3,by rw[erl];exact vQ a4⟩
 ·rw[erl] at hx;have mem:∃ k,(x,k)∈NW sc scope.names/\(k=.cell\/k=.free):=by
   rcases hx with hx|hx
   ·exact⟨_,PySem.mem_of_lookup hx,.inl rfl⟩
   ·exact⟨_,PySem.mem_of_lookup hx,.inr rfl⟩
  obtain⟨k,hm,hk⟩:=mem;have:=h7 _ hm;rcases hk with rfl|rfl<;>simpa using this
structure dP(P:Program)(w:World)(K:PySem.W.Frag)(mg:Str->Option Value)(base:Heap)(k:Nat)(x:Str)(ps:List Str)(sp:Sp):Prop where
 ex:∃ (g:Addr) (fd:FuncData),mg x=some (.ref g)/\PySem.W.keepIn K (.ref g)=true/\Binds K fd ps []/\fi P w K mg base iO k g fd ps sp
section
variable {X:Cx}{k:Nat}{x:Str}{ps:List Str}{sp:Sp}{p pos:Pos}{e:Expr}{es:List Expr}{t:TA}
theorem Jj (C:dP X.prog X.w X.K X.mg X.base k x ps sp) (hr:gI k X.A) (ha:PA X (e :: es) t) (hg:Gl X x:=by rfl) (g7:(x == ("__debug__" : Str))=false:=by decide) (he:starEach (e :: es) X.env=(false,eval e X.env) :: starEach es X.env:=by rfl) (hZ:(backTo pos (starEach es X.env)).any (·.1)=false:=by rfl):PE X (.Call (.Name x p) (e :: es) [] pos) (Mb sp [] E0 t):=by
 obtain⟨g,fd,hm,hk,hb,F⟩:=C.ex;exact bM' F hr hg hm hk hb .nil jm' ha g7 he hZ
end
theorem eK.ox{P:Program}{w:World}{K:PySem.W.Frag}{mg:Str->Option Value}{base:Heap}{k:Nat}{x qual:Str}{st:Stmt}{f:Addr}{fd:FuncData}{ps:List Str}{sp:Sp}(F:eK K x qual st f fd)(hm:mg x=some (.ref f))(G:fi P w K mg base iO k f fd ps sp)(h:∀ (kV doc pm:Value) (an:Option Addr) (bT ct:Value) (us:List Value),us.length=ps.length->bindArgs (PySem.W.fnOf x qual (gi st) (eM st) (bG st) .none kV doc pm an bT ct) ⟨us,[]⟩=pure (ps.zip us)):dP P w K mg base k x ps sp :=
 ⟨f,fd,hm,F.kp,F.binds h,G⟩
def N0(mg:Str->Option Value)(x:Str)(z:Str):Prop:=∃ t,mg x=some (.str z t)
def EX(mg:Str->Option Value)(x:Str)(i:Int):Prop:=∃ t,mg x=some (.int i t)
theorem Ky {X:Cx} {x z:Str} {pos:Pos} (h:N0 X.mg x z) (hg:Gl X x:=by rfl) (hd:(x == ("__debug__" : Str))=false:=by decide):PE X (.Name x pos) (tC (.str z)):=by obtain⟨t,e⟩:=h;exact xI hg e ⟨t,rfl⟩ hd
theorem Lb {X:Cx} {x:Str} {i:Int} {pos:Pos} (h:EX X.mg x i) (hg:Gl X x:=by rfl) (hd:(x == ("__debug__" : Str))=false:=by decide):PE X (.Name x pos) (tC (.int i)):=by obtain⟨t,e⟩:=h;exact xI hg e ⟨t,rfl⟩ hd
theorem iQ:bootBuiltins "str" = some (.type "str"):=by decide +kernel
theorem qw:bootBuiltins "int" = some (.type "int"):=by decide +kernel
theorem Hi:bootBuiltins "bool" = some (.type "bool"):=by decide +kernel
theorem Cj:bootBuiltins "list" = some (.type "list"):=by decide +kernel
theorem Cr:bootBuiltins "tuple" = some (.type "tuple"):=by decide +kernel
theorem jC:bootBuiltins "isinstance" = some (.builtin "isinstance"):=by decide +kernel
theorem E_:bootBuiltins "all" = some (.builtin "all"):=by decide +kernel
theorem bF:bootBuiltins "len" = some (.builtin "len"):=by decide +kernel
theorem sO {X:Cx} {x:Str} {T:String} {pos:Pos} (hm:X.mg x=none) (hv:bootBuiltins x=some (.type T)) (hg:Gl X x:=by rfl) (hn:x ≠ "__name__" := by decide) (hd:(x == ("__debug__" : Str))=false:=by decide):PE X (.Name x pos) (tC (.ty T)) :=
 fR' hg hm hv rfl hn hd
def ua(i j:Str):Bool:=!(Builtin.Str.occurrences j i 0 j.length 1).isEmpty
theorem rA(c:Nat)(j:Str):ua ⟨#[c]⟩ j=decide (c∈j.cps.toList):=PySem.StrLaws.found_one j c
def EZ(K:PySem.W.Frag)(neg:Bool):R2:=λx y H Q=>match x,y with
 |.str i,.str j=>Q (.bl (if neg then !ua i j else ua i j)) H
 |_,.ref p=>(∃ o,oq H p x o/\Q (.bl (if neg then !o.isSome else o.isSome)) H)\/MD K neg x y H Q
 |_,_=>False
theorem JX{X:Cx}(hu:X.A.units+64<cLine):cx X (compareOp .In) (EZ X.K false):=by
 walk_at"e";unfold EZ at h;split at h
 ·exact gW' pins s σ H _ _ v u Q I rx ry ⟨_,_,rfl,rfl,h⟩
 ·rcases h with⟨o,g,q⟩|h
  ·cases ry;exact iM' (by lia) I g rx λs3 I3=>⟨.bl o.isSome,H,I3,rfl,q⟩
  ·exact iz' pins s σ H _ _ v u Q I rx ry h
 ·exact h.elim
theorem zQ{X:Cx}(hu:X.A.units+64<cLine):cx X (compareOp .NotIn) (EZ X.K true):=by
 walk_at"e";unfold EZ at h;split at h
 ·exact gY' pins s σ H _ _ v u Q I rx ry ⟨_,_,rfl,rfl,h⟩
 ·rcases h with⟨o,g,q⟩|h
  ·cases ry;exact iN' (by lia) I g rx λs3 I3=>⟨.bl (!o.isSome),H,I3,rfl,q⟩
  ·exact iA' pins s σ H _ _ v u Q I rx ry h
 ·exact h.elim
theorem aT.upd{H H':Hp}{p:Addr}{o:HO}(h:aT H H')(hp:H' p=none):aT H (upd H' p o):=λb u e=>by have e':=h b u e;rw[fR (GP e' hp)];exact e'
theorem aT.lst{K:PySem.W.Frag}{H H':Hp}{a:Addr}{xs:List V}(e:aT H H')(h:eJ K H a xs):eJ K H' a xs:=e.seq h
theorem aT.tup{K:PySem.W.Frag}{H H':Hp}{a:Addr}{xs:List V}(e:aT H H')(h:ke K H a xs):ke K H' a xs:=by
 rcases h with(h|⟨o,h⟩)|h
 ·exact .inl (.inl (e _ _ h))
 ·exact .inl (.inr ⟨o,e _ _ h⟩)
 ·exact .inr h
mutual
theorem Rep.same{K:PySem.W.Frag}{H H':Hp}(s:aT H H'):∀ {d:PyData} {v:V},Rep K H d v->Rep K H' d v
 |_,_,.none=>.none
 |_,_,.bool b=>.bool b
 |_,_,.int i=>.int i
 |_,_,.str x=>.str x
 |_,_,.list h hs=>.list (s.lst h) (bp.same s hs)
 |_,_,.tuple h hs=>.tuple (s.tup h) (bp.same s hs)
theorem bp.same{K:PySem.W.Frag}{H H':Hp}(s:aT H H'):∀ {ds:List PyData} {vs:List V},bp K H ds vs->bp K H' ds vs
 |_,_,.nil=>.nil
 |_,_,.cons h hs=>.cons (Rep.same s h) (bp.same s hs)
end
section
variable {X:Cx}{K:PySem.W.Frag}
theorem kIx(hK:X.K=K:=by rfl):tJ X (Sr K):=by subst hK;exact Fd
theorem ub(hu:X.A.units+64<cLine)(hK:X.K=K:=by rfl):cx X (compareOp .Eq) (Sv K):=by subst hK;exact Kh hu
theorem wt(hu:X.A.units+64<cLine)(hK:X.K=K:=by rfl):cx X (compareOp .NotEq) (Sw K):=by subst hK;exact J_ hu
theorem kc(hu:X.A.units+64<cLine)(hK:X.K=K:=by rfl):cx X (compareOp .In) (EZ K false):=by subst hK;exact JX hu
theorem Jm(hu:X.A.units+64<cLine)(hK:X.K=K:=by rfl):cx X (compareOp .NotIn) (EZ K true):=by subst hK;exact zQ hu
theorem cv' (hc:X.calm=true:=by rfl) (hK:X.K=K:=by rfl):i9 X (.builtin "all") (Sx K):=by subst hK;exact z8 hc
end
theorem Pj{α:Type}{a:α}{p:α->Prop}:(∃ v,a=v/\p v)↔p a:=⟨λ⟨_,e,h⟩=>e ▸ h,λh=>⟨a,rfl,h⟩⟩
end L2
namespace L2
open PySem PySem.Spec PyProof.Rows
abbrev Sy:=Array DictEntry
def sv(h:Heap)(d:Addr)(es:Sy)(ep:Nat):Prop:=∃ o,h.get? d=some o/\o.ExactDict/\o.data=.dict es ep
theorem sv.typ {s:Shared} {d:Addr} {es:Sy} {ep:Nat} (x:sv s.heap d es ep):s.TypeIs (.ref d) "dict" := let ⟨o,e,c,_⟩:=x;⟨o,e,c.1⟩
section
variable {prog:Program}{w:World}{A:Around}{E:Value->Shared->Prop}{s:Shared}{d it:Addr}{es:Sy}{ep i:Nat}
theorem CN{Q:Value->Shared->Prop}(lo:(d == sysModules)=false)(x:sv s.heap d es ep)(q:Q (.ref s.heap.objs.size) { s with heap:=s.heap.push { cls:=.type "dict_keyiterator",data:=.fields #[.ref d,.int 0 0,.int es.size 0,.int ep 0] } }):wpAny (model prog w) A (pyIter (.ref d)) Q E s:=by
 obtain⟨o,ho,hc,Sz⟩:=id x;refine wpAny_pyIter_slot x.typ F.slot_dict_iter (wpAny_call_entry F.slot_dict_iter x.typ F.entry_dict_iter ?_ (F.args_dict_iter_1 _));unfold Builtin.«dict.__iter__»;refine ai ?_;unfold Builtin.Dict.dictSlotNone;refine ai (wpAny_notOrdered_dict x.typ ?_);refine(show wpAny _ _ (pure (Value.ref d)) _ _ s from aE ?_);refine(show wpAny _ _ (Builtin.Dict.showsAll d >>= _) _ _ s from ?_);unfold Builtin.Dict.showsAll;rw[if_neg (by rw[lo];decide)];refine ai (aE (ai (wpAny_dictEntries ho Sz (ai (wpAny_dictEpoch ho Sz (ai (wpAny_newObj_type (aE ⟨_,rfl, "dict_keyiterator",_,⟨_,gV _ rfl,rfl⟩,F.slot_dict_keyiterator_next.lookup,?_⟩))))))));simpa[rawInt] using q
theorem Dk{Q:Option Value->Shared->Prop}(hit:s.heap.IsKeyIter it d i es.size ep)(x:sv s.heap d es ep)(hx:i<es.size)(q:∀ h',h'.IsKeyIter it d (i+1) es.size ep->Heap.SameBut it s.heap h'->Q (some es[i].key) { s with heap:=h' }):wpAny (model prog w) A (pyNext (.ref it)) Q E s:=by
 obtain⟨o,ho,hc,hd⟩:=id hit;obtain⟨od,EV,oS,DI⟩:=id x;have ty:=hit.typeIs;unfold pyNext;walk_at"g";refine ai (aE (ai (ai ?_)));first|refine ai (wpAny_typeNameOfWhole_keyiter ty (aE ?_))|refine ai (wpAny_typeNameOf_keyiter ty (aE ?_))
 refine ai (wpAny_fieldsOf ho hd ?_);walk_at"af";walk_at"am";walk_at"aE";refine ai (aE (ai (wpAny_dictEntries EV DI ?_)));walk_at"aC";refine ai (aE (ai (wpAny_dictEpoch EV DI ?_)));walk_at"aC";refine aE ?_;simp only[show ¬ ((i:Int)<0) by lia,if_false,GO,y4 hx];refine ai ?_;first|refine ai (wpAny_typeNameOfWhole_keyiter ty (aE ?_))|refine ai (wpAny_typeNameOf_keyiter ty (aE ?_))
 refine ai (wpAny_isOneOf_keyiter ty ?_);refine(show wpAny _ _ (setField (.ref it) 1 (rawInt ((i:Int)+1)) >>= _) _ _ s from ai (wpAny_setField ho hd (by simp) ?_));have cw':(s.heap.update it (Obj.mapFields (·.setIfInBounds 1 (rawInt ((i:Int)+1))))).IsKeyIter it d (i+1) es.size ep :=
  ⟨_,xB _ ho (Obj.isFreed_of_fields (Obj.data_mapFields hd _)),(Obj.cls_mapFields ..).trans hc,by rw[Obj.data_mapFields hd];simp[rawInt]⟩
 refine ai (wpAny_holding (ai (wpAny_isOneOf_keyiter (s:={ s with heap:=s.heap.update it (Obj.mapFields (·.setIfInBounds 1 (rawInt ((i:Int)+1)))) }) cw'.typeIs ?_)));refine(show wpAny _ _ (pure es[i].key) _ _ _ from aE (aE ⟨_,rfl,aE (q _ cw' (Heap.SameBut.update ..))⟩))
theorem Dr{Q:Option Value->Shared->Prop}(hh:A.handled=none)(hit:s.heap.IsKeyIter it d es.size es.size ep)(x:sv s.heap d es ep)(q:∀ h',Heap.ExtBut it s.heap h'->Q none { s with heap:=h' }) :
  wpAny (model prog w) A (pyNext (.ref it)) Q E s:=by
 obtain⟨o,ho,hc,hd⟩:=id hit;obtain⟨od,EV,oS,DI⟩:=id x;have ty:=hit.typeIs;unfold pyNext;walk_at"g";refine ai (aE (ai (ai ?_)));first|refine ai (wpAny_typeNameOfWhole_keyiter ty (aE ?_))|refine ai (wpAny_typeNameOf_keyiter ty (aE ?_))
 refine ai (wpAny_fieldsOf ho hd ?_);walk_at"af";walk_at"am";walk_at"aE";refine ai (aE (ai (wpAny_dictEntries EV DI ?_)));walk_at"aC";refine ai (aE (ai (wpAny_dictEpoch EV DI ?_)));walk_at"aC";refine aE ?_;simp only[show ¬ ((es.size:Int)<0) by lia,if_false,GO,GL (bE es.size)];refine ai ?_;first|refine ai (wpAny_typeNameOfWhole_keyiter ty (aE ?_))|refine ai (wpAny_typeNameOf_keyiter ty (aE ?_))
 refine(show wpAny _ _ (setField (.ref it) 0 .none >>= _) _ _ s from ai (wpAny_setField ho hd (by simp) ?_));refine(show wpAny _ _ (newExc (.type "StopIteration") [] >>= _) _ _ _ from ai ?_);simp only[newExc,newTuple];walk_at"ar";refine ai (m:=firstArgMember _ _) (wpAny_of_eq (a:=Value.none) (by first|rfl|(simp only[firstArgMember];rfl)) (wpAny_newObj_type ?_ (by size_fits)));simp only[raiseNew];refine ai (wpAny_handled ?_);rw[show A.in1.handled=none from hh];refine ai (aE (wpAny_throw ?_));refine ai (wpAny_isInstance (b:=true) (T := "StopIteration") ⟨_,gV _ rfl,rfl⟩ isSubtype_stop ?_);exact aE (q _ (((Heap.SameBut.update ..).extBut.push _).push _))
theorem sv.at{h h':Heap}(x:sv h d es ep)(e:∀ o,h.get? d=some o->h'.get? d=some o):sv h' d es ep:=let ⟨o,ho,r⟩:=x;⟨o,e o ho,r⟩
theorem sv.lt{h:Heap}(x:sv h d es ep):d<h.objs.size:=let ⟨_,e,_⟩:=x;da e
theorem Ao(hh:A.handled=none)(I:Addr)(kf:d≠I):Walks prog w A I [I,d] [I] es.size (λi v=>∃ e,es[i]? = some e/\v=e.key) (λi h=>h.IsKeyIter I d i es.size ep/\sv h d es ep) where
 sub:=λb hb=>by simp at hb;simp[hb]
 frame:=λ_ _ _ st hk=>⟨st.1.at λo e=>hk I (by simp) o e,st.2.at λo e=>hk d (by simp) o e⟩
 item:=λi s Q E hi st hQ=>Dk st.1 st.2 hi λh' a b=>hQ _ h' s.toks ⟨es[i],by simp[hi],rfl⟩ ⟨a,st.2.at λo e=>b.extBut d o kf e⟩ λc o hb e=>b.extBut c o (λh=>hb (by simp[h])) e
 done:=λs Q E st hQ=>Dr hh st.1 st.2 λh' SD=>hQ h' s.toks λb o hb e=>SD b o (λh=>hb (by simp[h])) e
 self:=λ_ _ _ _ st hQ=>wpAny_pyIter_keyiter st.1 hQ
theorem Hc (lo:(d == sysModules)=false):PySem.W.KdlSrc prog w "dict" d d es.size (λi v=>∃ e,es[i]? = some e/\v=e.key) (λh=>sv h d es ep) where
 type:=λ_ x=>x.typ
 there:=λ_ x=>⟨x.lt,x.lt⟩
 keep:=λ_ _ x hk=>x.at λo e=>hk d (.inl rfl) o e
 notList:=by decide
 notTuple:=by decide
 hint:=λ_ _ _ _ x hq=>PySem.W.kdl_hint_dict x.typ hq
 iter:=λ_ _ hh x=>⟨_,_,(λ_ _ hq=>CN lo x hq),Ao hh _ (eL x.lt),⟨⟨_,gV _ rfl,rfl,rfl⟩,x.at λo e=>dA _ e⟩⟩
end
theorem Paired.n0{α β:Type}{R:α->β->Prop}{bs:List β}(h:Paired R [] bs):bs=[]:=by cases h;rfl
theorem Paired.c{α β:Type}{R:α->β->Prop}{a:α}{as:List α}{bs:List β}(h:Paired R (a :: as) bs):∃ b cs,bs=b :: cs/\R a b/\Paired R as cs:=by
 cases h with
 |cons r t=>exact⟨_,_,rfl,r,t⟩
def dg(H:Hp)(ys:List V)(ks:List (List Key)):Prop:=Paired (λ(v:V) (k:List Key)=>∃ b,v=.ref b/\H b=some (.tup (k.map kV))) ys ks
section
variable {X:Cx}
def xY:List V->Hp->VK->Prop:=λxs H Q=>match xs with
 |[.ref p]=>∃ ae,Rd H p (.dT ae)/\∀ ys l,dg H ys (ae.map (·.1))->H l=none->Q (.ref l) (upd H l (.lst ys))
 |_=>False
theorem Hu{prog:Program}{w:World}{H:Hp}{ae:List (List Key × V)}{xs:List (List Key × Addr × Value)}(h:Paired (λ(p:List Key × V) (q:List Key × Addr × Value)=>p.1=q.1/\H q.2.1=some (.tup (p.1.map kV))/\RelV p.2 q.2.2) ae xs) :
  dg H (xs.map λq=>.ref q.2.1) (ae.map (·.1))/\Vals (xs.map λq=>.ref q.2.1) ((xs.map (entryOfKey (tupleKind (kL prog w)))).map (·.key)):=by
 induction h with
 |nil=>exact⟨.nil,.nil⟩
 |cons r t ih=>exact⟨.cons ⟨_,rfl,r.2.1⟩ ih.1,.cons rfl ih.2⟩
theorem yN (hc:X.calm=true):i9 X (.type "list") xY:=by
 walk_at"o";unfold xY at h;split at h
 ·rename_i p;obtain⟨ae,e,q⟩:=h;walk_at"aG";cases ru;obtain⟨z,y,ps,rel,o,es,ep,h1,h2,h3,h4,h5⟩:=(show fh X.prog X.w H s.heap p (.dT ae) from I.rd e)
  obtain⟨ta,va⟩:=Hu (prog:=X.prog) (w:=X.w) rel;have hlen:es.size=ae.length:=by have:=congrArg List.length h4;rw[xC,cE] at this;rw[this];exact rel.length.symm
  refine PySem.W.kdl_call (Hc (es:=es) (ep:=ep) y) (I.ok.hd hc) ⟨o,h1,h2,h3⟩ (by lia) λh' tk acc c kp eo N3=>?_;have hv:acc.toList=(ps.map (entryOfKey (tupleKind (kL X.prog X.w)))).map (·.key):=by
   apply KW;intro i;by_cases hi:i<es.size
   ·have oy:i<acc.size:=by rw[N3.1];exact hi
    obtain⟨en,e1,e2⟩:=N3.2 i acc[i] (by simp[oy]);rw[<- h4,lI,oj,oj,e1];simp[oy,e2]
   ·rw[<- h4,lI,oj,oj,GL (by rw[N3.1];lia),GL (by lia)];rfl
  refine⟨.ref s.heap.objs.size,_,I.laid (t':=tk) kp (bE _) (show fh X.prog X.w _ h' _ (.lst (ps.map λq=>.ref q.2.1)) from⟨?_,acc.toList,c,?_,?_⟩),rfl,q _ _ ta (I.aS.fresh (bE _))⟩
  ·rw[cE,<- rel.length];exact z
  ·rw[hv];exact va
  ·rw[Ul];exact eo
 ·exact h.elim
end
end L2
namespace zv
open PySem PyProof.Rows
def R(r:Value->Int)(xs:Array Keyed)(i:Nat):Int:=match xs[i]? with
 |some p=>r p.1
 |none=>0
theorem eF{r:Value->Int}{xs ys:Array Keyed}{i j:Nat}(h:xs[i]? = ys[j]?):R r xs i=R r ys j:=by unfold R;rw[h]
def mS(prog:Program)(w:World)(A:Around)(s:Shared)(κ:SortKind)(r:Value->Int)(P:Value->Prop):Prop :=
 ∀ x y,P x->P y->∀ (Q:Bool->Shared->Prop) (E:Value->Shared->Prop),Q (decide (r x<r y)) s->wpAny (model prog w) A (keyLt' κ x y) Q E s
def AllP(P:Value->Prop)(xs:Array Keyed):Prop:=∀ p∈xs.toList,P p.1
theorem AllP.perm{P:Value->Prop}{xs ys:Array Keyed}(h:AllP P xs)(hp:ys.Perm xs):AllP P ys:=λp hm=>h p ((Uk.mp hp).mem_iff.mp hm)
theorem AllP.at{P:Value->Prop}{xs:Array Keyed}(h:AllP P xs){i:Nat}{p:Keyed}(e:xs[i]? = some p):P p.1:=h p (by
 obtain⟨hi,rfl⟩:=y3.mp e;simp)
structure kR(lo hi:Nat)(st ah:SortSt):Prop where
 kind:kindOf ah=kindOf st
 failed:failedOf ah=failedOf st
 pend:pendingOf ah=pendingOf st
 perm:(arrOf ah).Perm (arrOf st)
 out:∀ k,k<lo\/hi<=k->(arrOf ah)[k]? = (arrOf st)[k]?
theorem kR.refl(lo hi:Nat)(st:SortSt):kR lo hi st st:=⟨rfl,rfl,rfl,Array.Perm.refl _,λ_ _=>rfl⟩
theorem kR.trans{lo hi:Nat}{a b c:SortSt}(h:kR lo hi a b)(g:kR lo hi b c):kR lo hi a c :=
 ⟨g.kind.trans h.kind,g.failed.trans h.failed,g.pend.trans h.pend,g.perm.trans h.perm,λk hk=>(g.out k hk).trans (h.out k hk)⟩
theorem kR.mono{lo hi E2 js:Nat}{a b:SortSt}(h:kR lo hi a b)(h1:E2<=lo)(h2:hi<=js):kR E2 js a b :=
 ⟨h.kind,h.failed,h.pend,h.perm,λk hk=>h.out k (by lia)⟩
theorem kR.size{lo hi:Nat}{a b:SortSt}(h:kR lo hi a b):(arrOf b).size=(arrOf a).size:=h.perm.size_eq
def Up(r:Value->Int)(xs:Array Keyed)(lo hi:Nat):Prop:=∀ i j,lo<=i->i<=j->j<hi->R r xs i<=R r xs j
def Down(r:Value->Int)(xs:Array Keyed)(lo hi:Nat):Prop:=∀ i j,lo<=i->i<=j->j<hi->R r xs j<=R r xs i
theorem xu{r:Value->Int}{xs:Array Keyed}{src d:Nat}(hs:src<xs.size)(hd:d<=src)(k:Nat) :
  R r (bubble xs src d) k=if k=src-d then R r xs src else if src-d<k/\k<=src then R r xs (k-1) else R r xs k:=by
 have e:=getElem?_bubble hs d hd k;by_cases h1:k=src-d
 ·rw[if_pos h1] at e ⊢;exact eF e
 ·rw[if_neg h1] at e ⊢;by_cases h2:src-d<k/\k<=src
  ·rw[if_pos h2] at e ⊢;exact eF e
  ·rw[if_neg h2] at e ⊢;exact eF e
theorem qP{r:Value->Int}{xs:Array Keyed}{i j:Nat}(hj:j<=xs.size)(k:Nat) :
  R r (mirror xs i j ((j-i) / 2)) k=if i<=k/\k<j then R r xs (i+j-1-k) else R r xs k:=by
 have e:=getElem?_mirror_all (i:=i) hj k;by_cases h1:i<=k/\k<j
 ·rw[if_pos h1] at e ⊢;exact eF e
 ·rw[if_neg h1] at e ⊢;exact eF e
theorem cF{r:Value->Int}{xs:Array Keyed}{i j:Nat}(hj:j<=xs.size)(heq:∀ k,i<=k->k<j->R r xs k=R r xs (j-1))(k:Nat) :
  R r (mirror xs i j ((j-i) / 2)) k=R r xs k:=by
 rw[qP hj];split
 ·rw[heq _ (by lia) (by lia),heq k (by lia) (by lia)]
 ·rfl
section
variable {prog:Program}{w:World}{A:Around}{E:Value->Shared->Prop}{s:Shared}{κ:SortKind}{r:Value->Int}{P:Value->Prop}
theorem tK{st:SortSt}{x y:Keyed}{Q:Option Bool->SortSt->Prop}(C:mS prog w A s κ r P)(hk:kindOf st=κ)(hx:P x.1)(hy:P y.1)(h:Q (some (decide (r x.1<r y.1))) st) :
  wpS (model prog w) A E s (lt' x y) Q st:=by
 rw[lt'_eq];walk_at"z";rw[hk];refine wpS_bind (wpS_lift (wpAny_attempt (C x.1 y.1 hx hy _ _ ⟨rfl,?_⟩)));exact wpS_pure h
theorem aP{xs:Array Keyed}{i:Nat}{Q:Keyed->SortSt->Prop}{st:SortSt}(hi:i<xs.size)(h:∀ p,xs[i]? = some p->Q p st):wpS (model prog w) A E s (elem' xs i) Q st:=by rw[elem'_eq,getElem?_pos xs i hi];exact wpS_pure (h _ (getElem?_pos xs i hi))
theorem oV{st:SortSt}{i j:Nat}{Q:Option Bool->SortSt->Prop}(C:mS prog w A s κ r P)(hk:kindOf st=κ)(hP:AllP P (arrOf st))(hi:i<(arrOf st).size)(hj:j<(arrOf st).size)(h:Q (some (decide (R r (arrOf st) i<R r (arrOf st) j))) st):wpS (model prog w) A E s (ltAt' i j) Q st:=by
 rw[ltAt'_eq];walk_at"z";show wpS _ _ _ _ (do let x <- elem' (arrOf st) i;let y <- elem' (arrOf st) j;lt' x y) Q st;refine wpS_bind (aP hi λp ep=>wpS_bind (aP hj λq eq=>tK C hk (hP.at ep) (hP.at eq) ?_));have e1:R r (arrOf st) i=r p.1:=by unfold R;rw[ep]
 have e2:R r (arrOf st) j=r q.1:=by unfold R;rw[eq]
 rw[<- e1,<- e2];exact h
theorem e_{st:SortSt}{i j:Nat}{Q:Unit->SortSt->Prop}(h:Q () (setArr st (mirror (arrOf st) i j ((j-i) / 2)))) :
  wpS (model prog w) A E s (reverseSlice' i j) Q st:=by
 rw[reverseSlice'_eq];exact wpS_modify h
theorem iy{st:SortSt}{i j:Nat}(hj:j<=(arrOf st).size):kR i j st (setArr st (mirror (arrOf st) i j ((j-i) / 2))) :=
 ⟨rfl,rfl,rfl,mirror_perm _ _ _ _,λk hk=>by
  have e:=getElem?_mirror_all (i:=i) hj k;rw[if_neg (by lia)] at e;exact e⟩
theorem yr{st:SortSt}{lo src d:Nat}(hs:src<(arrOf st).size)(hd:lo+d<=src):kR lo (src+1) st (setArr st (bubble (arrOf st) src d)) :=
 ⟨rfl,rfl,rfl,bubble_perm _ _ _,λk hk=>by
  have e:=getElem?_bubble hs d (by walk_at "s4") k;rw[if_neg (by lia),if_neg (by lia)] at e;exact e⟩
theorem wpS_binarySort{st:SortSt}{lo n ok:Nat}{Q:Bool->SortSt->Prop}(C:mS prog w A s κ r P)(hk:kindOf st=κ)(hP:AllP P (arrOf st))(hn:lo+n<=(arrOf st).size)(aS:ok<=n)(hs:Up r (arrOf st) lo (lo+ok))(h:∀ ah,kR lo (lo+n) st ah->Up r (arrOf ah) lo (lo+n)->Q true ah):wpS (model prog w) A E s (binarySort' lo n ok) Q st:=by
 rw[binarySort'_eq];refine wpS_bind (wpS_mono (wpS_forRange (I:=λk c ah=>c=(none,())/\kR lo (lo+n) st ah/\Up r (arrOf ah) lo (lo+min k n)) (Q:=λc ah=>c=(none,())/\kR lo (lo+n) st ah/\Up r (arrOf ah) lo (lo+n)) ?step ?fin ?init) ?post)
 case post =>
  rintro c ah ⟨rfl,iP,fF⟩;exact wpS_pure (h ah iP fF)
 case init =>
  refine⟨rfl,.refl _ _ _,λi j hl kF hj=>?_⟩;by_cases h1:ok=0
  ·have:i=j:=by lia
   subst this;exact wm _
  ·exact hs i j hl kF (by lia)
 case fin =>
  rintro c ah ⟨hc,iP,fF⟩;refine⟨hc,iP,?_⟩;rwa[show min (max (max ok 1) n) n=n by lia] at fF
 case step =>
  rintro k c ah hak hkn ⟨rfl,iP,fF⟩;rw[show min k n=k by lia] at fF;have hsz:=iP.size;have nI:kindOf ah=κ:=iP.kind.trans hk;have qk:=hP.perm iP.perm;refine wpS_bind (wpS_mono (wpS_forRange (I:=λx c x8=>x8=ah/\∃ l r',c=(none,l,r')/\l<=r'/\r'<=k/\r'-l<=k-x /\ (∀ i,lo<=i->i<lo+l->R r (arrOf ah) i<=R r (arrOf ah) (lo+k))/\(∀ i,lo+r'<=i->i<lo+k->R r (arrOf ah) (lo+k)<R r (arrOf ah) i)) (Q:=λc x8=>x8=ah/\∃ l r',c=(none,l,r')/\l<=k /\ (∀ i,lo<=i->i<lo+l->R r (arrOf ah) i<=R r (arrOf ah) (lo+k))/\(∀ i,lo+l<=i->i<lo+k->R r (arrOf ah) (lo+k)<R r (arrOf ah) i)) ?jv' ?jw' ?jx') ?jy')
  case jx'=>exact⟨rfl,0,k,rfl,by exact dy _,by exact bE _,by exact Rv _ _,λi _ hi=>by lia,λi h1 h2=>by lia⟩
  case jw' =>
   rintro c x8 ⟨rfl,l,r',rfl,hlr,U8,hm,DE,zC⟩;have:l=r':=by lia
   subst this;exact⟨rfl,l,l,rfl,U8,DE,zC⟩
  case jv' =>
   rintro x c x8 _ hxk ⟨rfl,l,r',rfl,hlr,U8,hm,DE,zC⟩;dsimp only;by_cases qo:l >= r'
   ·rw[if_pos qo];have:l=r':=by exact LD ‹_› ‹_›
    subst this;exact wpS_pure ⟨rfl,l,l,rfl,U8,DE,zC⟩
   ·rw[if_neg qo];walk_at"an";by_cases ui:R r (arrOf x8) (lo+k)<R r (arrOf x8) (lo+(l+r') / 2)
    ·simp only[ui,decide_true,if_true];refine wpS_pure ⟨rfl,l,(l+r') / 2,rfl,by lia,by lia,by lia,DE,λi h1 h2=>?_⟩;exact Int.lt_of_lt_of_le ui (fF _ _ (by exact xv _ _) h1 h2)
    ·walk_at"aY";refine wpS_pure ⟨rfl,(l+r') / 2+1,r',rfl,by lia,by lia,by lia,λi h0 h1=>?_,zC⟩;exact wd (fF i (lo+(l+r') / 2) h0 (by lia) (by lia)) (RJ.mp ui)
  case jy' =>
   rintro c x8 ⟨rfl,l,r',rfl,hlk,DE,zC⟩;show wpS _ _ _ _ (do moveDown' (lo+k) (lo+l);pure (ForInStep.yield (none,()))) _ _;rw[moveDown'_eq];have U9:lo+k<(arrOf x8).size:=by lia
   refine wpS_bind (wpS_modify (wpS_pure ⟨rfl,iP.trans ((yr (lo:=lo) U9 (by lia)).mono (bE _) (by lia)),?_⟩));rw[show min (k+1) n=k+1 by exact Nat.min_eq_left ‹_›];intro i j hl kF hj;show R r (bubble (arrOf x8) (lo+k) (lo+k-(lo+l))) i<=R r (bubble (arrOf x8) (lo+k) (lo+k-(lo+l))) j;rw[xu U9 (by exact Rv _ _),xu U9 (by exact Rv _ _),show lo+k-(lo+k-(lo+l))=lo+l by lia]
   repeat' split
   all_goals first
    | (exfalso;lia)
    |exact wm _
    |exact DE _ (by lia) (by lia)
    |exact y6 (zC _ (by lia) (by lia))
    |exact fF _ _ (by lia) (by lia) (by lia)
end
def ascL(lo a nrem:Nat):StateT SortSt Sem AscSt :=
 forIn [a:nrem] ((none,a):AscSt) λ_ __s=>do
  let __x ← ltAt' (lo + __s.snd) (lo + __s.snd - 1)
  match __x with
  |some smaller=>if smaller=true then pure (ForInStep.done (none,__s.snd)) else pure (ForInStep.yield (none,__s.snd+1))
  |_=>pure (ForInStep.done (some none,__s.snd))
def uX(lo n nrem:Nat):StateT SortSt Sem (Option Nat):=do
 reverseSlice' lo (lo+n)
 let __s ← ascL lo n nrem
 match __s.fst with
 |some r=>pure r
 |none=>pure (some __s.snd)
def Dh(lo n nrem:Nat):StateT SortSt Sem DescSt :=
 forIn [n:nrem] ((none,n,0):DescSt) λ_ __s=>do
  let __x ← ltAt' (lo + __s.snd.fst) (lo + __s.snd.fst - 1)
  match __x with
  |some smaller =>
   if smaller=true then
    if __s.snd.snd>0 then do
     reverseSlice' (lo+__s.snd.fst-(__s.snd.snd+1)) (lo+__s.snd.fst)
     pure (ForInStep.yield (none,__s.snd.fst+1,0))
    else pure (ForInStep.yield (none,__s.snd.fst+1,0))
   else do
    let __x ← ltAt' (lo+__s.snd.fst - 1) (lo+__s.snd.fst)
    match __x with
    |some larger =>
     if larger=true then pure (ForInStep.done (none,__s.snd.fst,__s.snd.snd))
     else pure (ForInStep.yield (none,__s.snd.fst+1,__s.snd.snd+1))
    |_=>pure (ForInStep.done (some none,__s.snd.fst,__s.snd.snd))
  |_=>pure (ForInStep.done (some none,__s.snd.fst,__s.snd.snd))
def iu(lo n nrem:Nat):StateT SortSt Sem (Option Nat):=do
 liftM (rule "list.sort.descending-run")
 let __s ← Dh lo (n+1) nrem
 match __s.fst with
 |some r=>pure r
 |none =>
  if __s.snd.snd>0 then do
   reverseSlice' (lo+__s.snd.fst-(__s.snd.snd+1)) (lo+__s.snd.fst)
   uX lo __s.snd.fst nrem
  else uX lo __s.snd.fst nrem
theorem uo(lo nrem:Nat):countRun' lo nrem=(do
  let __s ← ascL lo 1 nrem
  match __s.fst with
  |some r=>pure r
  |none =>
   if (__s.snd == nrem)=true then pure (some __s.snd)
   else if __s.snd>1 then do
    let __x ← ltAt' lo (lo+__s.snd - 1)
    match __x with
    |some cx'=>if cx'=true then pure (some __s.snd) else do
      reverseSlice' lo (lo+__s.snd)
      iu lo __s.snd nrem
    |_=>pure none
   else iu lo __s.snd nrem):=by
 rw[countRun'_eq];dsimp only;unfold iu uX Dh ascL;congr 1;funext __s;obtain⟨r,n⟩:=__s
 cases r with
 |some r=>rfl
 |none =>
  dsimp only;split
  ·rfl
  ·split
   ·congr 1;funext x
    cases x with
    |none=>rfl
    |some cx' =>
     dsimp only;split
     ·rfl
     ·congr 1;funext _r
      (congr 1;funext _u;congr 1;congr 1;funext s2;obtain⟨r2,n2,q2⟩:=s2;cases r2 with
       |some r2=>rfl
       |none=>(dsimp only;split;(congr 1;funext _v;(congr 1;funext _w;congr 1;(funext s3;obtain⟨r3,n3⟩:=s3;cases r3<;>rfl)));(congr 1;funext _w;congr 1;(funext s3;obtain⟨r3,n3⟩:=s3;cases r3<;>rfl))))
   ·(congr 1;funext _u;congr 1;congr 1;funext s2;obtain⟨r2,n2,q2⟩:=s2;cases r2 with
     |some r2=>rfl
     |none=>(dsimp only;split;(congr 1;funext _v;(congr 1;funext _w;congr 1;(funext s3;obtain⟨r3,n3⟩:=s3;cases r3<;>rfl)));(congr 1;funext _w;congr 1;(funext s3;obtain⟨r3,n3⟩:=s3;cases r3<;>rfl))))
section
variable {prog:Program}{w:World}{A:Around}{E:Value->Shared->Prop}{s:Shared}{κ:SortKind}{r:Value->Int}{P:Value->Prop}
theorem xF{st:SortSt}{lo a nrem:Nat}{Q:AscSt->SortSt->Prop}(C:mS prog w A s κ r P)(hk:kindOf st=κ)(hP:AllP P (arrOf st))(hn:lo+nrem<=(arrOf st).size)(ha:1<=a)(han:a<=nrem)(hs:Up r (arrOf st) lo (lo+a))(h:∀ n,a<=n->n<=nrem->Up r (arrOf st) lo (lo+n)->(n=nrem\/R r (arrOf st) (lo+n)<R r (arrOf st) (lo+n-1))->Q (none,n) st) :
  wpS (model prog w) A E s (ascL lo a nrem) Q st:=by
 unfold ascL;refine wpS_forRange (I:=λx c ah=>ah=st/\c=(none,x)/\Up r (arrOf st) lo (lo+x)) ?step ?fin ⟨rfl,rfl,hs⟩;case fin =>
  rintro c ah ⟨rfl,rfl,fF⟩;rw[show max a nrem=nrem by lia] at fF ⊢;exact h nrem han (bE _) fF (.inl rfl)
 case step =>
  rintro x c ah U_ hxn ⟨rfl,rfl,fF⟩;dsimp only;refine wpS_bind (oV C hk hP (by lia) (by lia) ?_);by_cases ui:R r (arrOf ah) (lo+x)<R r (arrOf ah) (lo+x-1)
  ·simp only[ui,decide_true,if_true];exact wpS_pure (h x U_ (by exact ky ‹_›) fF (.inr ui))
  ·walk_at"aY";refine wpS_pure ⟨rfl,rfl,λi j hl kF hj=>?_⟩;by_cases N4:j<lo+x
   ·exact fF i j hl kF N4
   ·have wx:j=lo+x:=by lia
    subst wx;by_cases js:i=lo+x
    ·subst js;exact wm _
    ·exact wd (fF i (lo+x-1) hl (by lia) (by lia)) (RJ.mp ui)
theorem qD{st:SortSt}{lo n nrem:Nat}{Q:Option Nat->SortSt->Prop}(C:mS prog w A s κ r P)(hk:kindOf st=κ)(hP:AllP P (arrOf st))(hn:lo+nrem<=(arrOf st).size)(h1:1<=n)(A0:n<=nrem)(hs:Down r (arrOf st) lo (lo+n)) (h:∀ m ah,kR lo (lo+nrem) st ah->1<=m->m<=nrem->Up r (arrOf ah) lo (lo+m)->Q (some m) ah) :
  wpS (model prog w) A E s (uX lo n nrem) Q st:=by
 unfold uX;have hsz:lo+n<=(arrOf st).size:=by lia
 refine wpS_bind (e_ ?_);have iP:=iy (i:=lo) hsz;refine wpS_bind (xF C (iP.kind.trans hk) (hP.perm iP.perm) (by rw[iP.size];exact hn) h1 A0 ?_ λm ya qq Va _=>wpS_pure (h m _ (iP.mono (bE _) (by lia)) (by walk_at "s1") qq Va));intro i j hl kF hj;show R r (mirror (arrOf st) lo (lo+n) ((lo+n-lo) / 2)) i<=R r (mirror (arrOf st) lo (lo+n) ((lo+n-lo) / 2)) j;rw[qP hsz,qP hsz,if_pos (by lia),if_pos (by lia)];exact hs _ _ (by lia) (by lia) (by lia)
theorem B_{st:SortSt}{lo n nrem:Nat}{Q:DescSt->SortSt->Prop}(C:mS prog w A s κ r P)(hk:kindOf st=κ)(hP:AllP P (arrOf st))(hn:lo+nrem<=(arrOf st).size)(h1:1<=n)(A0:n<=nrem)(hs:Down r (arrOf st) lo (lo+n))(h:∀ m qA ah,kR lo (lo+nrem) st ah->n<=m->m<=nrem->Down r (arrOf ah) lo (lo+m)->qA+1<=m->(∀ i,lo+m-(qA+1)<=i->i<lo+m->R r (arrOf ah) i=R r (arrOf ah) (lo+m-1))->Q (none,m,qA) ah) :
  wpS (model prog w) A E s (Dh lo n nrem) Q st:=by
 unfold Dh;refine wpS_forRange (I:=λx c ah=>∃ qA,c=(none,x,qA)/\kR lo (lo+nrem) st ah/\Down r (arrOf ah) lo (lo+x)/\qA+1<=x /\ (∀ i,lo+x-(qA+1)<=i->i<lo+x->R r (arrOf ah) i=R r (arrOf ah) (lo+x-1))) ?step ?fin ⟨0,rfl,.refl _ _ _,hs,by lia,λi h1 h2=>by congr 1;lia⟩
 case fin =>
  rintro c ah ⟨qA,rfl,iP,fF,hq,he⟩;rw[show max n nrem=nrem by lia] at fF hq he ⊢;exact h nrem qA ah iP A0 (bE _) fF hq he
 case step =>
  rintro x c ah U_ hxn ⟨qA,rfl,iP,fF,hq,he⟩;dsimp only;have hz:=iP.size;have hsz:lo+x<=(arrOf ah).size:=by lia
  have nI:=iP.kind.trans hk;have qk:=hP.perm iP.perm;walk_at"an";by_cases ui:R r (arrOf ah) (lo+x)<R r (arrOf ah) (lo+x-1)
  ·simp only[ui,decide_true,if_true];have cy':∀ xs:Array Keyed,(∀ k,R r xs k=R r (arrOf ah) k)->Down r xs lo (lo+(x+1)):=by
    intro xs hkk i j hl kF hj;rw[hkk,hkk];by_cases N4:j<lo+x
    ·exact fF i j hl kF N4
    ·have wx:j=lo+x:=by lia
     subst wx;by_cases js:i=lo+x
     ·subst js;exact wm _
     ·exact wd (y6 ui) (fF i (lo+x-1) hl (by lia) (by lia))
   by_cases N9:qA>0
   ·rw[if_pos N9];refine wpS_bind (e_ (wpS_pure ⟨0,rfl,iP.trans ((iy hsz).mono (by lia) (by lia)),cy' _ (cF hsz he),by exact ti _,λi h1 h2=>by congr 1;lia⟩))
   ·rw[if_neg N9];exact wpS_pure ⟨0,rfl,iP,cy' _ (λ_=>rfl),by exact ti _,λi h1 h2=>by congr 1;lia⟩
  ·walk_at"aY";walk_at"an";by_cases cA':R r (arrOf ah) (lo+x-1)<R r (arrOf ah) (lo+x)
   ·simp only[cA',decide_true,if_true];exact wpS_pure (h x qA ah iP U_ (by exact ky ‹_›) fF hq he)
   ·simp only[cA',decide_false,gX,if_false];have cB':R r (arrOf ah) (lo+x)=R r (arrOf ah) (lo+x-1):=by lia
    refine wpS_pure ⟨qA+1,rfl,iP,λi j hl kF hj=>?_,by exact wc ‹_›,λi h1 h2=>?_⟩
    ·by_cases N4:j<lo+x
     ·exact fF i j hl kF N4
     ·have wx:j=lo+x:=by lia
      subst wx;by_cases js:i=lo+x
      ·subst js;exact wm _
      ·rw[cB'];exact fF i (lo+x-1) hl (by lia) (by lia)
    ·rw[show lo+(x+1)-1=lo+x by rfl];by_cases E3:i=lo+x
     ·subst E3;rfl
     ·rw[cB'];exact he i (by lia) (by lia)
theorem jk{st:SortSt}{lo n nrem:Nat}{Q:Option Nat->SortSt->Prop}(C:mS prog w A s κ r P)(hk:kindOf st=κ)(hP:AllP P (arrOf st))(hn:lo+nrem<=(arrOf st).size)(A0:n+1<=nrem)(hs:Down r (arrOf st) lo (lo+(n+1))) (h:∀ m ah,kR lo (lo+nrem) st ah->1<=m->m<=nrem->Up r (arrOf ah) lo (lo+m)->Q (some m) ah) :
  wpS (model prog w) A E s (iu lo n nrem) Q st:=by
 unfold iu;walk_at"k";refine wpS_bind (B_ C hk hP hn (by exact ti _) A0 hs λm qA ah iP ya qq fF hq he=>?_);dsimp only;have hz:=iP.size;have hsz:lo+m<=(arrOf ah).size:=by lia
 have nI:=iP.kind.trans hk;have qk:=hP.perm iP.perm;by_cases N9:qA>0
 ·rw[if_pos N9];have hW:=iy (i:=lo+m-(qA+1)) hsz;refine wpS_bind (e_ (qD C (hW.kind.trans nI) (qk.perm hW.perm) (by rw[hW.size,hz];exact hn) (by walk_at "s2") qq ?_ λm2 mE A3=>h m2 mE ((iP.trans (hW.mono (by lia) (by lia))).trans A3)));intro i j hl kF hj;show R r (mirror (arrOf ah) _ _ _) j<=R r (mirror (arrOf ah) _ _ _) i;rw[cF hsz he,cF hsz he];exact fF i j hl kF hj
 ·rw[if_neg N9];exact qD C nI qk (by rw[hz];exact hn) (by lia) qq fF λm2 mE A3=>h m2 mE (iP.trans A3)
theorem wpS_countRun{st:SortSt}{lo nrem:Nat}{Q:Option Nat->SortSt->Prop}(C:mS prog w A s κ r P)(hk:kindOf st=κ)(hP:AllP P (arrOf st))(hn:lo+nrem<=(arrOf st).size)(h1:1<=nrem)(h:∀ m ah,kR lo (lo+nrem) st ah->1<=m->m<=nrem->Up r (arrOf ah) lo (lo+m)->Q (some m) ah) :
  wpS (model prog w) A E s (countRun' lo nrem) Q st:=by
 rw[uo];refine wpS_bind (xF C hk hP hn (bE 1) h1 (λi j hl kF hj=>by
  have:i=j:=by lia
  subst this;exact wm _) λn hn1 Sn nK hor=>?_)
 dsimp only;by_cases A0:n=nrem
 ·rw[if_pos (by simpa using A0)];exact wpS_pure (h n st (.refl _ _ _) hn1 Sn nK)
 ·rw[if_neg (by simpa using A0)];have eu:R r (arrOf st) (lo+n)<R r (arrOf st) (lo+n-1):=hor.resolve_left A0;by_cases hgt:n>1
  ·rw[if_pos hgt];refine wpS_bind (oV C hk hP (by lia) (by lia) ?_);by_cases cE':R r (arrOf st) lo<R r (arrOf st) (lo+n-1)
   ·simp only[cE',decide_true,if_true];exact wpS_pure (h n st (.refl _ _ _) hn1 Sn nK)
   ·simp only[cE',decide_false,gX,if_false];have hsz:lo+n<=(arrOf st).size:=by lia
    have mM:∀ k,lo<=k->k<lo+n->R r (arrOf st) k=R r (arrOf st) (lo+n-1):=by intro k hl hk;have a1:=nK lo k (by exact bE _) hl hk;have a2:=nK k (lo+n-1) hl (by lia) (by lia);lia
    have hW:=iy (i:=lo) hsz;refine wpS_bind (e_ (jk C (hW.kind.trans hk) (hP.perm hW.perm) (by rw[hW.size];exact hn) (by lia) ?_ λm2 mE A3=>h m2 mE ((hW.mono (bE _) (by lia)).trans A3)));intro i j hl kF hj;show R r (mirror (arrOf st) _ _ _) j<=R r (mirror (arrOf st) _ _ _) i;rw[cF hsz mM,cF hsz mM];by_cases hjn:j<lo+n
    ·rw[mM i hl (by walk_at "s1"),mM j (by walk_at "s1") hjn];exact wm _
    ·have wx:j=lo+n:=by lia
     subst wx;by_cases js:i=lo+n
     ·subst js;exact wm _
     ·rw[mM i hl (by lia)];exact y6 eu
  ·rw[if_neg hgt];have jE':n=1:=by lia
   subst jE';refine jk C hk hP hn (by lia) ?_ h;intro i j hl kF hj;by_cases js:i=j
   ·subst js;exact wm _
   ·have Oy:i=lo:=by lia
    have hj1:j=lo+1:=by lia
    subst Oy;subst hj1;exact y6 eu
end
def BK(left:Bool)(key:Keyed)(arr:Array Keyed)(base i:Nat):StateT SortSt Sem (Option Bool):=do
 let x ← elem' arr (base+i)
 if left then lt' x key else return (<- lt' key x).map (!·)
def mF:Bool->Keyed->Array Keyed->Nat->Nat->Nat->StateT SortSt Sem (Option Nat):=sortPriv% PySem.Builtin.gallop
section
variable {prog:Program}{w:World}{A:Around}{E:Value->Shared->Prop}{s:Shared}{κ:SortKind}{r:Value->Int}{P:Value->Prop}
def eT(r:Value->Int)(left:Bool)(key:Keyed)(arr:Array Keyed)(base i:Nat):Bool :=
 if left then decide (R r arr (base+i)<r key.1) else !decide (r key.1<R r arr (base+i))
theorem fU{st:SortSt}{left:Bool}{key:Keyed}{arr:Array Keyed}{base i:Nat}{Q:Option Bool->SortSt->Prop}(C:mS prog w A s κ r P)(hk:kindOf st=κ)(hP:AllP P arr)(hy:P key.1)(hi:base+i<arr.size)(h:Q (some (eT r left key arr base i)) st):wpS (model prog w) A E s (BK left key arr base i) Q st:=by
 unfold BK;refine wpS_bind (aP hi λp ep=>?_);have e1:R r arr (base+i)=r p.1:=by unfold R;rw[ep]
 unfold eT at h;rw[e1] at h
 cases left with
 |true =>simp only[if_true] at h ⊢;exact tK C hk (hP.at ep) hy h
 |false =>simp only[gX,if_false] at h ⊢;exact wpS_bind (tK C hk hy (hP.at ep) (wpS_pure h))
theorem Dc{left:Bool}{key:Keyed}{arr:Array Keyed}{base n i j:Nat}(hu:Up r arr base (base+n))(kF:i<=j)(hj:j<n)(h:eT r left key arr base j=true):eT r left key arr base i=true:=by
 have q:=hu (base+i) (base+j) (by exact xv _ _) (by lia) (by lia);unfold eT at h ⊢
 cases left with
 |true=>simp only[if_true,decide_eq_true_eq] at h ⊢;lia
 |false=>simp only[gX,if_false,Ui,decide_eq_false_iff_not] at h ⊢;lia
theorem dY{st:SortSt}{left:Bool}{key:Keyed}{arr:Array Keyed}{base n hint:Nat}{Q:Option Nat->SortSt->Prop}(C:mS prog w A s κ r P)(hk:kindOf st=κ)(hP:AllP P arr)(hy:P key.1)(hn:base+n<=arr.size)(hh:hint<n)(hu:Up r arr base (base+n))(h:∀ k,k<=n->(∀ i,i<k->eT r left key arr base i=true)->(∀ i,k<=i->i<n->eT r left key arr base i=false)->Q (some k) st):wpS (model prog w) A E s (mF left key arr base n hint) Q st:=by
 have mono:∀ {i j},i<=j->j<n->eT r left key arr base j=true->eT r left key arr base i=true:=λa b c=>Dc hu a b c;have SF:∀ {i j},i<=j->j<n->eT r left key arr base i=false->eT r left key arr base j=false:=λ{i j} a b c=>by
  cases q:eT r left key arr base j with
  |false=>rfl
  |true=>rw[mono a b q] at c;cases c
 refine wpS_bind (fU C hk hP hy (by lia) ?_);dsimp only
 cases q0:eT r left key arr base hint with
 |true =>
  simp only[if_true];refine wpS_bind (wpS_mono (wpS_forRange (I:=λx c ah=>ah=st/\∃ lst eR,c=(none,lst,eR)/\lst<eR/\lst<n-hint/\x+1<=eR/\eT r left key arr base (hint+lst)=true) (Q:=λc ah=>ah=st/\∃ lst eR,c=(none,lst,eR)/\lst<eR/\lst<n-hint/\eT r left key arr base (hint+lst)=true/\(n-hint<=eR\/eT r left key arr base (hint+eR)=false)) ?step ?fin ?init) ?post)
  case init=>exact⟨rfl,0,1,rfl,by exact ti _,by lia,by exact ti _,q0⟩
  case fin =>
   rintro c ah ⟨rfl,lst,eR,rfl,h1,h2,h3,h4⟩;exact⟨rfl,lst,eR,rfl,h1,h2,h4,.inl (by lia)⟩
  case step =>
   rintro x c ah _ hx ⟨rfl,lst,eR,rfl,h1,h2,h3,h4⟩;dsimp only;by_cases qo:eR >= n-hint
   ·rw[if_pos qo];exact wpS_pure ⟨rfl,lst,eR,rfl,h1,h2,h4,.inl qo⟩
   ·rw[if_neg qo];refine wpS_bind (fU C hk hP hy (by lia) ?_)
    cases q:eT r left key arr base (hint+eR) with
    |true =>simp only[RA,gX,if_false];exact wpS_pure ⟨rfl,_,_,rfl,by lia,by exact FU ‹_›,by lia,q⟩
    |false =>simp only[Bool.not_false,if_true];exact wpS_pure ⟨rfl,lst,eR,rfl,h1,h2,h4,.inr q⟩
  case post =>
   rintro c ah ⟨rfl,lst,eR,rfl,h1,h2,h4,h5⟩;dsimp only;generalize ah=st at *
   have hl:∀ i,i<hint+lst+1->eT r left key arr base i=true:=λi hi=>mono (j:=hint+lst) (by lia) (by lia) h4;have zC:∀ i,hint+min eR (n-hint)<=i->i<n->eT r left key arr base i=false:=λi hi nS=>by
    rcases h5 with h5|h5
    ·lia
    ·by_cases z:n-hint<=eR
     ·lia
     ·exact SF (i:=hint+eR) (by lia) nS h5
   have Vb:hint+lst+1<=hint+min eR (n-hint):=by lia
   have Vc:hint+min eR (n-hint)<=n:=by lia
   generalize hint+lst+1=lo at *
   generalize hint+min eR (n-hint)=hi at *
   refine wpS_bind (wpS_mono (wpS_forRange (I:=λx c ah=>ah=st/\∃ l u,c=(none,l,u)/\l<=u/\u<=n/\u-l<=n-x/\(∀ i,i<l->eT r left key arr base i=true)/\(∀ i,u<=i->i<n->eT r left key arr base i=false)) (Q:=λc ah=>ah=st/\∃ l,c=(none,l,l)/\l<=n/\(∀ i,i<l->eT r left key arr base i=true)/\(∀ i,l<=i->i<n->eT r left key arr base i=false)) ?jG' ?jH' ?jI') ?postA)
   case jI'=>exact⟨rfl,lo,hi,rfl,Vb,Vc,by lia,hl,zC⟩
   case jH' =>
    rintro c ah ⟨rfl,l,u,rfl,h1,h2,h3,h4,h5⟩;have:l=u:=by lia
    subst this;exact⟨rfl,l,rfl,h2,h4,h5⟩
   case jG' =>
    rintro x c ah _ hx ⟨rfl,l,u,rfl,h1,h2,h3,h4,h5⟩;dsimp only;by_cases qo:l >= u
    ·rw[if_pos qo];have:l=u:=by exact LD ‹_› ‹_›
     subst this;exact wpS_pure ⟨rfl,l,rfl,h2,h4,h5⟩
    ·rw[if_neg qo];refine wpS_bind (fU C hk hP hy (by lia) ?_)
     cases q:eT r left key arr base (l+(u-l) / 2) with
     |true =>simp only[if_true];exact wpS_pure ⟨rfl,_,_,rfl,by lia,by lia,by lia,λi hi=>mono (j:=l+(u-l) / 2) (by lia) (by lia) q,h5⟩
     |false =>simp only[gX,if_false];exact wpS_pure ⟨rfl,_,_,rfl,by exact xv _ _,by lia,by lia,h4,λi hi nS=>SF (i:=l+(u-l) / 2) (by lia) nS q⟩
   case postA =>
    rintro c ah ⟨rfl,l,rfl,h2,h4,h5⟩;exact wpS_pure (h l h2 h4 h5)
 |false =>
  walk_at"aT";refine wpS_bind (wpS_mono (wpS_forRange (I:=λx c ah=>ah=st/\∃ lst eR,c=(none,lst,eR)/\lst<eR/\lst<hint+1/\x+1<=eR/\eT r left key arr base (hint-lst)=false) (Q:=λc ah=>ah=st/\∃ lst eR,c=(none,lst,eR)/\lst<eR/\lst<hint+1/\eT r left key arr base (hint-lst)=false/\(hint+1<=eR\/eT r left key arr base (hint-eR)=true)) ?jJ' ?fin2 ?jK') ?jL')
  case jK'=>exact⟨rfl,0,1,rfl,by exact ti _,by exact ti _,by exact ti _,q0⟩
  case fin2 =>
   rintro c ah ⟨rfl,lst,eR,rfl,h1,h2,h3,h4⟩;exact⟨rfl,lst,eR,rfl,h1,h2,h4,.inl (by walk_at "s2")⟩
  case jJ' =>
   rintro x c ah _ hx ⟨rfl,lst,eR,rfl,h1,h2,h3,h4⟩;dsimp only;by_cases qo:eR >= hint+1
   ·rw[if_pos qo];exact wpS_pure ⟨rfl,lst,eR,rfl,h1,h2,h4,.inl qo⟩
   ·rw[if_neg qo];refine wpS_bind (fU C hk hP hy (by lia) ?_)
    cases q:eT r left key arr base (hint-eR) with
    |true =>simp only[if_true];exact wpS_pure ⟨rfl,lst,eR,rfl,h1,h2,h4,.inr q⟩
    |false =>simp only[gX,if_false];exact wpS_pure ⟨rfl,_,_,rfl,by lia,by exact FU ‹_›,by lia,q⟩
  case jL' =>
   rintro c ah ⟨rfl,lst,eR,rfl,h1,h2,h4,h5⟩;dsimp only;generalize ah=st at *
   have hl:∀ i,i<hint+1-min eR (hint+1)->eT r left key arr base i=true:=λi hi=>by
    rcases h5 with h5|h5
    ·lia
    ·by_cases z:hint+1<=eR
     ·lia
     ·exact mono (j:=hint-eR) (by lia) (by lia) h5
   have zC:∀ i,hint-lst<=i->i<n->eT r left key arr base i=false:=λi hi nS=>SF (i:=hint-lst) (by lia) nS h4;have Vb:hint+1-min eR (hint+1)<=hint-lst:=by lia
   have Vc:hint-lst<=n:=by lia
   generalize hint+1-min eR (hint+1)=lo at *
   generalize hint-lst=hi at *
   refine wpS_bind (wpS_mono (wpS_forRange (I:=λx c ah=>ah=st/\∃ l u,c=(none,l,u)/\l<=u/\u<=n/\u-l<=n-x/\(∀ i,i<l->eT r left key arr base i=true)/\(∀ i,u<=i->i<n->eT r left key arr base i=false)) (Q:=λc ah=>ah=st/\∃ l,c=(none,l,l)/\l<=n/\(∀ i,i<l->eT r left key arr base i=true)/\(∀ i,l<=i->i<n->eT r left key arr base i=false)) ?jM' ?jN' ?jO') ?jP')
   case jO'=>exact⟨rfl,lo,hi,rfl,Vb,Vc,by lia,hl,zC⟩
   case jN' =>
    rintro c ah ⟨rfl,l,u,rfl,h1,h2,h3,h4,h5⟩;have:l=u:=by lia
    subst this;exact⟨rfl,l,rfl,h2,h4,h5⟩
   case jM' =>
    rintro x c ah _ hx ⟨rfl,l,u,rfl,h1,h2,h3,h4,h5⟩;dsimp only;by_cases qo:l >= u
    ·rw[if_pos qo];have:l=u:=by exact LD ‹_› ‹_›
     subst this;exact wpS_pure ⟨rfl,l,rfl,h2,h4,h5⟩
    ·rw[if_neg qo];refine wpS_bind (fU C hk hP hy (by lia) ?_)
     cases q:eT r left key arr base (l+(u-l) / 2) with
     |true =>simp only[if_true];exact wpS_pure ⟨rfl,_,_,rfl,by lia,by lia,by lia,λi hi=>mono (j:=l+(u-l) / 2) (by lia) (by lia) q,h5⟩
     |false =>simp only[gX,if_false];exact wpS_pure ⟨rfl,_,_,rfl,by exact xv _ _,by lia,by lia,h4,λi hi nS=>SF (i:=l+(u-l) / 2) (by lia) nS q⟩
   case jP' =>
    rintro c ah ⟨rfl,l,rfl,h2,h4,h5⟩;exact wpS_pure (h l h2 h4 h5)
end
abbrev Le(r:Value->Int)(x y:Keyed):Prop:=r x.1<=r y.1
theorem nV{r:Value->Int}{xs:Array Keyed}{i:Nat}{p:Keyed}(e:xs[i]? = some p):R r xs i=r p.1:=by unfold R;rw[e]
theorem Jv{r:Value->Int}{xs:Array Keyed}{i:Nat}(h:i<xs.size):R r xs i=r xs[i].1:=nV (getElem?_pos xs i h)
structure MI(r:Value->Int)(a b out:Array Keyed)(ia ib:Nat):Prop where
 ha:ia<=a.size
 hb:ib<=b.size
 perm:out.toList.Perm (a.toList.take ia++b.toList.take ib)
 up:out.toList.Pairwise (Le r)
 la:∀ x∈out.toList,∀ i,ia<=i->i<a.size->r x.1<=R r a i
 lb:∀ x∈out.toList,∀ j,ib<=j->j<b.size->r x.1<=R r b j
section
variable {r:Value->Int}{a b out:Array Keyed}{ia ib:Nat}
theorem pY{α:Type}{l:List α}{i:Nat}{x:α}(h:l[i]? = some x):l.take (i+1)=l.take i++[x]:=by rw[D6,h];rfl
theorem MI.uP(M:MI r a b out ia ib)(hA:Up r a 0 a.size)(hB:Up r b 0 b.size){y:Keyed}(e:b[ib]? = some y)(hl:ia<a.size->R r b ib<=R r a ia):MI r a b (out.push y) ia (ib+1):=by
 have hib:ib<b.size:=(y3.mp e).1;have ey:=nV (r:=r) e;refine⟨M.ha,hib,?_,?_,?_,?_⟩
 ·rw[om,pY (x:=y) (by simpa using e),<- vT];exact M.perm.append_right _
 ·rw[om,Rn];refine⟨M.up,by simp,λx hx z hz=>?_⟩;have:z=y:=by simpa using hz
  subst this;show r x.1<=r z.1;rw[<- ey];exact M.lb x hx ib (bE _) hib
 ·intro x hx i hi Ic;rw[om] at hx;rcases eI.mp hx with hx|hx
  ·exact M.la x hx i hi Ic
  ·have:x=y:=by simpa using hx
   subst this;rw[<- ey];exact wd (hl (by walk_at "s1")) (hA ia i (dy _) hi Ic)
 ·intro x hx j hj OB;rw[om] at hx;rcases eI.mp hx with hx|hx
  ·exact M.lb x hx j (by exact ky ‹_›) OB
  ·have:x=y:=by simpa using hx
   subst this;rw[<- ey];exact hB ib j (dy _) (by exact ky ‹_›) OB
theorem MI.uB(M:MI r a b out ia ib)(hA:Up r a 0 a.size)(hB:Up r b 0 b.size){y:Keyed}(e:a[ia]? = some y)(hl:ib<b.size->R r a ia<=R r b ib):MI r a b (out.push y) (ia+1) ib:=by
 have Ic:ia<a.size:=(y3.mp e).1;have ey:=nV (r:=r) e;refine⟨Ic,M.hb,?_,?_,?_,?_⟩
 ·rw[om,pY (x:=y) (by simpa using e),vT];walk_at"aL";rw[vT];exact List.Perm.append_left _ T7
 ·rw[om,Rn];refine⟨M.up,by simp,λx hx z hz=>?_⟩;have:z=y:=by simpa using hz
  subst this;show r x.1<=r z.1;rw[<- ey];exact M.la x hx ia (bE _) Ic
 ·intro x hx i hi oy;rw[om] at hx;rcases eI.mp hx with hx|hx
  ·exact M.la x hx i (by exact ky ‹_›) oy
  ·have:x=y:=by simpa using hx
   subst this;rw[<- ey];exact hA ia i (dy _) (by exact ky ‹_›) oy
 ·intro x hx j hj OB;rw[om] at hx;rcases eI.mp hx with hx|hx
  ·exact M.lb x hx j hj OB
  ·have:x=y:=by simpa using hx
   subst this;rw[<- ey];exact wd (hl (by walk_at "s1")) (hB ib j (dy _) hj OB)
theorem gK{xs:Array Keyed}{i k:Nat}(h:i+k<xs.size):xs.extract i (i+(k+1))=(xs.extract i (i+k)).push xs[i+k]:=by apply RD.mp;rw[om];simp only[Um,T5];rw[show i+(k+1)-i=k+1 by exact Uh ..,show i+k-i=k by exact Uh ..,D6];congr 1;rw[List.getElem?_drop];simp[h]
theorem MI.A4(hA:Up r a 0 a.size)(hB:Up r b 0 b.size):∀ (k:Nat) {out:Array Keyed} {ia:Nat},MI r a b out ia ib->ia+k<=a.size->(ib<b.size->∀ i,i<k->R r a (ia+i)<=R r b ib)->MI r a b (out++a.extract ia (ia+k)) (ia+k) ib
 |0,out,ia,M,h1,h2=>by have:a.extract ia (ia+0) = #[]:=RB (by simp only[EC];lia);rw[this];simpa using M
 |k+1,out,ia,M,h1,h2=>by have q:=MI.A4 hA hB k M (by exact ky ‹_›) λhb i hi=>h2 hb i (by exact rz ‹_›);have e:a[ia+k]? = some a[ia+k]:=getElem?_pos a (ia+k) (by assumption);have z:=q.uB hA hB e λhb=>h2 hb k (by exact bE _);rw[gK (by assumption),Array.append_push];exact z
theorem MI.A5(hA:Up r a 0 a.size)(hB:Up r b 0 b.size):∀ (k:Nat) {out:Array Keyed} {ib:Nat},MI r a b out ia ib->ib+k<=b.size->(ia<a.size->∀ i,i<k->R r b (ib+i)<=R r a ia)->MI r a b (out++b.extract ib (ib+k)) ia (ib+k)
 |0,out,ib,M,h1,h2=>by have:b.extract ib (ib+0) = #[]:=RB (by simp only[EC];lia);rw[this];simpa using M
 |k+1,out,ib,M,h1,h2=>by have q:=MI.A5 hA hB k M (by exact ky ‹_›) λha i hi=>h2 ha i (by exact rz ‹_›);have e:b[ib+k]? = some b[ib+k]:=getElem?_pos b (ib+k) (by assumption);have z:=q.uP hA hB e λha=>h2 ha k (by exact bE _);rw[gK (by assumption),Array.append_push];exact z
def cZ(r:Value->Int)(a b out:Array Keyed):Prop:=out.toList.Perm (a.toList++b.toList)/\out.toList.Pairwise (Le r)
theorem MI.whole(M:MI r a b out a.size b.size):cZ r a b out:=by refine⟨?_,M.up⟩;have h:=M.perm;rw[FL (by simp),FL (by simp)] at h;exact h
theorem MI.KH(M:MI r a b out ia b.size)(hA:Up r a 0 a.size)(hB:Up r b 0 b.size):cZ r a b (out++a.extract ia a.size++b.extract b.size b.size):=by
 have e:b.extract b.size b.size = #[]:=by simp
 rw[e,Uo];have ha:=M.ha;have q:=MI.A4 hA hB (a.size-ia) M (by lia) λhb=>absurd hb (oi _);rw[show ia+(a.size-ia)=a.size by exact si ‹_›] at q;exact q.whole
theorem MI.KJ(M:MI r a b out a.size ib)(hA:Up r a 0 a.size)(hB:Up r b 0 b.size):cZ r a b (out++a.extract a.size a.size++b.extract ib b.size):=by
 have e:a.extract a.size a.size = #[]:=by simp
 rw[e,Uo];have hb:=M.hb;have q:=MI.A5 hA hB (b.size-ib) M (by lia) λha=>absurd ha (oi _);rw[show ib+(b.size-ib)=b.size by exact si ‹_›] at q;exact q.whole
theorem MI.Iq(M:MI r a b out ia ib)(hA:Up r a 0 a.size)(hB:Up r b 0 b.size)(e:ib=b.size):cZ r a b (out++a.extract ia a.size++b.extract ib b.size):=by subst e;exact M.KH hA hB
theorem MI.Iy(M:MI r a b out ia ib)(hA:Up r a 0 a.size)(hB:Up r b 0 b.size)(e:ia=a.size):cZ r a b (out++a.extract ia a.size++b.extract ib b.size):=by subst e;exact M.KJ hA hB
theorem MI.Lj(M:MI r a b out ia ib)(hA:Up r a 0 a.size)(hB:Up r b 0 b.size)(Ic:ia+1=a.size)(hg:∀ j,j<b.size->R r b j<=R r a ia):cZ r a b (out++b.extract ib b.size++a.extract ia a.size):=by have hb:=M.hb;have q:=MI.A5 hA hB (b.size-ib) M (by lia) λha i hi=>hg _ (by lia);rw[show ib+(b.size-ib)=b.size by exact si ‹_›] at q;have z:=MI.A4 hA hB (a.size-ia) q (by lia) λhb=>absurd hb (oi _);rw[show ia+(a.size-ia)=a.size by lia] at z;exact z.whole
theorem MI.start(hA:Up r a 0 a.size)(hB:Up r b 0 b.size):MI r a b #[] 0 0:=⟨dy _,dy _,by simp,by simp,λx hx=>by simp at hx,λx hx=>by simp at hx⟩
end
def b7:Nat->StateT SortSt Sem Unit:=sortPriv% PySem.Builtin.setMinGallop
def yc:Array Keyed->Array Keyed->StateT SortSt Sem (Array Keyed):=sortPriv% PySem.Builtin.mergeLo
def ym:Array Keyed->Array Keyed->StateT SortSt Sem (Array Keyed):=sortPriv% PySem.Builtin.mergeHi
theorem lL(g:Nat):b7 g=modify λs=>SortSt.mk' (kindOf s) (arrOf s) (pendingOf s) g (failedOf s):=rfl
def Mg(st ah:SortSt):Prop:=∃ g,ah=SortSt.mk' (kindOf st) (arrOf st) (pendingOf st) g (failedOf st)
theorem Mg.refl(st:SortSt):Mg st st:=⟨gallopOf st,rfl⟩
theorem Mg.kind{st ah:SortSt}(h:Mg st ah):kindOf ah=kindOf st:=by obtain⟨g,rfl⟩:=h;rfl
theorem Mg.set{st ah:SortSt}(h:Mg st ah)(g:Nat):Mg st (SortSt.mk' (kindOf ah) (arrOf ah) (pendingOf ah) g (failedOf ah)):=by obtain⟨g',rfl⟩:=h;exact⟨g,rfl⟩
section
variable {prog:Program}{w:World}{A:Around}{E:Value->Shared->Prop}{s:Shared}{r:Value->Int}
theorem jx{st:SortSt}{g:Nat}{Q:Unit->SortSt->Prop}(h:Q () (SortSt.mk' (kindOf st) (arrOf st) (pendingOf st) g (failedOf st))):wpS (model prog w) A E s (b7 g) Q st:=by rw[lL];exact wpS_modify h
theorem Df{key:Keyed}{arr:Array Keyed}{base i:Nat}(h:eT r false key arr base i=true):R r arr (base+i)<=r key.1:=by unfold eT at h;simp only[gX,if_false,Ui,decide_eq_false_iff_not] at h;exact RJ.mp ‹_›
theorem By{key:Keyed}{arr:Array Keyed}{base i:Nat}(h:eT r false key arr base i=false):r key.1<R r arr (base+i):=by unfold eT at h;simp only[gX,if_false,Bool.not_eq_false',decide_eq_true_eq] at h;exact h
theorem Fy{key:Keyed}{arr:Array Keyed}{base i:Nat}(h:eT r true key arr base i=true):R r arr (base+i)<r key.1:=by unfold eT at h;simp only[if_true,decide_eq_true_eq] at h;exact h
theorem yp{key:Keyed}{arr:Array Keyed}{base i:Nat}(h:eT r true key arr base i=false):r key.1<=R r arr (base+i):=by unfold eT at h;simp only[if_true,decide_eq_false_iff_not] at h;exact RJ.mp ‹_›
end
theorem Mg.trans{a b c:SortSt}(h:Mg a b)(g:Mg b c):Mg a c:=by obtain⟨x,rfl⟩:=h;obtain⟨y,rfl⟩:=g;exact⟨y,rfl⟩
theorem Ft{K G:Prop}(pk:K)(h:K->G):G:=h pk
abbrev SM:=StateT SortSt Sem
abbrev L1:=Option (Array Keyed) × Array Keyed × Nat × Nat × Nat
abbrev zD:=Option (Array Keyed) × Array Keyed × Nat × Nat × Nat × Nat
abbrev L3:=Option (Array Keyed) × Array Keyed × Nat × Nat × Nat × Nat × Nat
def DJ(a b out:Array Keyed)(ia ib:Nat):Array Keyed:=out++a.extract ia a.size++b.extract ib b.size
def OG(a b out:Array Keyed)(ia ib:Nat):Array Keyed:=out++b.extract ib b.size++a.extract ia a.size
def Vd(a b:Array Keyed)(mg ac bc ia ib:Nat)(out:Array Keyed):SM (ForInStep L3):=elem' a ia >>= λp =>
 if (ia+1+1 == a.size)=true then pure (.done (some (OG a b (out.push p) (ia+1) ib),out.push p,ia+1,ib,mg,ac,bc))
 else if (decide (ac<7) && decide (bc<7))=true then pure (.done (none,out.push p,ia+1,ib,mg,ac,bc)) else pure (.yield (none,out.push p,ia+1,ib,mg,ac,bc))
def E4(a b:Array Keyed)(mg ac bc ia ib:Nat)(out:Array Keyed):SM (ForInStep L3):=elem' a ia >>= λp=>mF true p b ib (b.size-ib) 0 >>= λx=>match x with
 |some k=>if k>0 then
   if (ib+k == b.size)=true then pure (.done (some (DJ a b (out++b.extract ib (ib+k)) ia (ib+k)),out++b.extract ib (ib+k),ia,ib+k,mg,ac,k))
   else Vd a b mg ac k ia (ib+k) (out++b.extract ib (ib+k))
  else Vd a b mg ac k ia ib out
 |_=>pure (.done (some (DJ a b out ia ib),out,ia,ib,mg,ac,bc))
def lo1(a b:Array Keyed)(mg ac bc ia ib:Nat)(out:Array Keyed):SM (ForInStep L3):=elem' b ib >>= λp =>
 if (ib+1 == b.size)=true then pure (.done (some (DJ a b (out.push p) ia (ib+1)),out.push p,ia,ib+1,mg,ac,bc)) else E4 a b mg ac bc ia (ib+1) (out.push p)
def Ve(a b:Array Keyed)(mg ac bc ia ib:Nat)(out:Array Keyed):SM (ForInStep L3):=b7 mg >>= λ_=>elem' b ib >>= λp=>mF false p a ia (a.size-ia) 0 >>= λx=>match x with
 |some k=>if k>0 then
   if (ia+k+1 == a.size)=true then pure (.done (some (OG a b (out++a.extract ia (ia+k)) (ia+k) ib),out++a.extract ia (ia+k),ia+k,ib,mg,k,bc))
   else if (ia+k == a.size)=true then pure (.done (some (DJ a b (out++a.extract ia (ia+k)) (ia+k) ib),out++a.extract ia (ia+k),ia+k,ib,mg,k,bc))
   else lo1 a b mg k bc (ia+k) ib (out++a.extract ia (ia+k))
  else lo1 a b mg k bc ia ib out
 |_=>pure (.done (some (DJ a b out ia ib),out,ia,ib,mg,ac,bc))
def loG(a b:Array Keyed)(_:Nat)(s:L3):SM (ForInStep L3) :=
 if s.2.2.2.2.1>1 then Ve a b (s.2.2.2.2.1-1) s.2.2.2.2.2.1 s.2.2.2.2.2.2 s.2.2.1 s.2.2.2.1 s.2.1 else Ve a b s.2.2.2.2.1 s.2.2.2.2.2.1 s.2.2.2.2.2.2 s.2.2.1 s.2.2.2.1 s.2.1
def loA(a b:Array Keyed)(mg bc ia ib:Nat)(out:Array Keyed):SM (ForInStep zD):=elem' b ib >>= λp =>
 if (ib+1 == b.size)=true then pure (.done (some (DJ a b (out.push p) ia (ib+1)),out.push p,ia,ib+1,0,bc+1))
 else if bc+1 >= mg then pure (.done (none,out.push p,ia,ib+1,0,bc+1)) else pure (.yield (none,out.push p,ia,ib+1,0,bc+1))
def loB(a b:Array Keyed)(mg ac ia ib:Nat)(out:Array Keyed):SM (ForInStep zD):=elem' a ia >>= λp =>
 if (ia+1+1 == a.size)=true then pure (.done (some (OG a b (out.push p) (ia+1) ib),out.push p,ia+1,ib,ac+1,0))
 else if ac+1 >= mg then pure (.done (none,out.push p,ia+1,ib,ac+1,0)) else pure (.yield (none,out.push p,ia+1,ib,ac+1,0))
def loI(a b:Array Keyed)(mg:Nat)(_:Nat)(s:zD):SM (ForInStep zD):=elem' b s.2.2.2.1 >>= λpb=>elem' a s.2.2.1 >>= λpa=>lt' pb pa >>= λx=>match x with
 |some w=>if w=true then loA a b mg s.2.2.2.2.2 s.2.2.1 s.2.2.2.1 s.2.1 else loB a b mg s.2.2.2.2.1 s.2.2.1 s.2.2.2.1 s.2.1
 |_=>pure (.done (some (DJ a b s.2.1 s.2.2.1 s.2.2.2.1),s.2.1,s.2.2.1,s.2.2.2.1,s.2.2.2.2.1,s.2.2.2.2.2))
def loP (a b:Array Keyed) (mg:Nat) (t:zD):SM (ForInStep L1):=(liftM (rule "list.sort.gallop"):SM Unit) >>= λ_ =>
 forIn [:a.size+b.size] ((none,t.2.1,t.2.2.1,t.2.2.2.1,mg+1,t.2.2.2.2.1,t.2.2.2.2.2):L3) (loG a b) >>= λu=>match u.1 with
 |some r=>pure (.done (some r,u.2.1,u.2.2.1,u.2.2.2.1,u.2.2.2.2.1))
 |none=>b7 (u.2.2.2.2.1+1) >>= λ_=>pure (.yield (none,u.2.1,u.2.2.1,u.2.2.2.1,u.2.2.2.2.1+1))
def loO(a b:Array Keyed)(_:Nat)(s:L1):SM (ForInStep L1):=forIn [:a.size+b.size] ((none,s.2.1,s.2.2.1,s.2.2.2.1,0,0):zD) (loI a b s.2.2.2.2) >>= λt=>match t.1 with
 |some r=>pure (.done (some r,t.2.1,t.2.2.1,t.2.2.2.1,s.2.2.2.2))
 |none=>loP a b s.2.2.2.2 t
def loM (a b:Array Keyed):SM (Array Keyed):=(liftM (rule "list.sort.merge-lo"):SM Unit) >>= λ_=>elem' b 0 >>= λy =>
 if (1 == b.size)=true then pure (DJ a b #[y] 0 1)
 else if (0+1 == a.size)=true then pure (OG a b #[y] 0 1)
 else get >>= λst=>forIn [:a.size+b.size] ((none,#[y],0,1,gallopOf st):L1) (loO a b) >>= λt=>match t.1 with
 |some r=>pure r
 |none=>(liftM (unsupported (α:=Array Keyed) "internal:list.sort.merge-bound"):SM (Array Keyed))
set_option smartUnfolding false in
theorem yw:yc=loM:=rfl
section
variable {prog:Program}{w:World}{A:Around}{E:Value->Shared->Prop}{s:Shared}{κ:SortKind}{r:Value->Int}{P:Value->Prop}{a b out:Array Keyed}{mg ac bc ia ib N:Nat}{st:SortSt}
structure MC(prog:Program)(w:World)(A:Around)(s:Shared)(κ:SortKind)(r:Value->Int)(P:Value->Prop)(a b:Array Keyed):Prop where
 C:mS prog w A s κ r P
 pa:AllP P a
 pb:AllP P b
 hA:Up r a 0 a.size
 hB:Up r b 0 b.size
 hl:∀ i,i<a.size->R r b 0<=R r a i
 hg:∀ j,j<b.size->R r b j<=R r a (a.size-1)
def HS{β:Type}(r:Value->Int)(a b:Array Keyed)(c:Option (Array Keyed) × β):Prop:=∃ out rest,c=(some out,rest)/\cZ r a b out
def LY(r:Value->Int)(a b:Array Keyed)(N:Nat)(c:L3):Prop:=∃ out ia ib mg ac bc,c=(none,out,ia,ib,mg,ac,bc)/\MI r a b out ia ib/\ia+1<a.size/\ib<b.size/\N<=ia+ib
def LI(r:Value->Int)(a b:Array Keyed)(N:Nat)(c:zD):Prop:=∃ out ia ib ac bc,c=(none,out,ia,ib,ac,bc)/\MI r a b out ia ib/\ia+1<a.size/\ib<b.size/\N<=ia+ib
theorem MC.last(c:MC prog w A s κ r P a b)(M:MI r a b out ia ib)(z:ia+1=a.size):cZ r a b (OG a b out ia ib):=M.Lj c.hA c.hB z λj hj=>by have:=c.hg j hj;rwa[show a.size-1=ia by lia] at this
theorem Fe{Q:ForInStep L3->SortSt->Prop}(c:MC prog w A s κ r P a b)(M:MI r a b out ia ib)(h1:ia+1<a.size)(lt:R r a ia<=R r b ib)(h2:ib<b.size)(hN:N<=ia+ib)(D:∀ c,HS r a b c->Q (.done c) st)(Y:∀ c,LY r a b N c->Q (.done c) st/\Q (.yield c) st):wpS (model prog w) A E s (Vd a b mg ac bc ia ib out) Q st:=by
 refine wpS_bind (aP (by exact AI ‹_›) λp e=>?_);have M2:=M.uB c.hA c.hB e λ_=>lt;by_cases z:ia+1+1=a.size
 ·walk_at"h";exact wpS_pure (D _ ⟨_,_,rfl,c.last M2 z⟩)
 ·walk_at"i";have y:=Y _ ⟨_,_,_,mg,ac,bc,rfl,M2,by lia,h2,by lia⟩;split
  ·exact wpS_pure y.1
  ·exact wpS_pure y.2
theorem J4{Q:ForInStep L3->SortSt->Prop}(c:MC prog w A s κ r P a b)(hk:kindOf st=κ)(M:MI r a b out ia ib)(h1:ia+1<a.size)(h2:ib<b.size)(hN:N<=ia+ib)(D:∀ c,HS r a b c->Q (.done c) st)(Y:∀ c,LY r a b N c->Q (.done c) st/\Q (.yield c) st):wpS (model prog w) A E s (E4 a b mg ac bc ia ib out) Q st:=by
 refine wpS_bind (aP (by exact AI ‹_›) λp e=>wpS_bind (dY c.C hk c.pb (c.pa.at e) (by lia) (by lia) (λi j u v w=>c.hB i j (by exact dy _) v (by lia)) λl IA HZ IB=>?_));have ra:=nV (r:=r) e;dsimp only;have lt:ib+l<b.size->R r a ia<=R r b (ib+l):=λz=>by have:=yp (IB l (bE _) (by lia));lia
 by_cases l0:l>0
 ·have M5:=MI.A5 c.hA c.hB l M (by lia) λ_ i hi=>by have:=Fy (HZ i hi);lia
  rw[if_pos l0];by_cases z:ib+l=b.size
  ·walk_at"h";exact wpS_pure (D _ ⟨_,_,rfl,M5.Iq c.hA c.hB z⟩)
  ·walk_at"i";exact Fe c M5 h1 (lt (by lia)) (by lia) (by walk_at "s4") D Y
 ·rw[if_neg l0];obtain rfl:l=0:=by lia
  exact Fe c M h1 (lt h2) h2 hN D Y
theorem Et{Q:ForInStep L3->SortSt->Prop}(c:MC prog w A s κ r P a b)(hk:kindOf st=κ)(M:MI r a b out ia ib)(h1:ia+1<a.size)(lt:R r b ib<=R r a ia)(h2:ib<b.size)(hN:N<=ia+ib)(D:∀ c,HS r a b c->Q (.done c) st)(Y:∀ c,LY r a b N c->Q (.done c) st/\Q (.yield c) st):wpS (model prog w) A E s (lo1 a b mg ac bc ia ib out) Q st:=by
 refine wpS_bind (aP h2 λp e=>?_);have M4:=M.uP c.hA c.hB e λ_=>lt;by_cases z:ib+1=b.size
 ·walk_at"h";exact wpS_pure (D _ ⟨_,_,rfl,M4.Iq c.hA c.hB z⟩)
 ·walk_at"i";exact J4 c hk M4 h1 (by lia) (by exact FV ‹_›) D Y
theorem JS{Q:ForInStep L3->SortSt->Prop}(c:MC prog w A s κ r P a b)(hk:kindOf st=κ)(M:MI r a b out ia ib)(h1:ia+1<a.size)(h2:ib<b.size)(hN:N<=ia+ib)(D:∀ ah,Mg st ah->∀ c,HS r a b c->Q (.done c) ah)(Y:∀ ah,Mg st ah->∀ c,LY r a b N c->Q (.done c) ah/\Q (.yield c) ah):wpS (model prog w) A E s (Ve a b mg ac bc ia ib out) Q st:=by
 have g:=(Mg.refl st).set mg;refine wpS_bind (jx ?_);refine wpS_bind (aP h2 λp e=>wpS_bind (dY c.C (g.kind.trans hk) c.pa (c.pb.at e) (by lia) (by lia) (λi j u v w=>c.hA i j (by exact dy _) v (by lia)) λk hk1 w8 E5=>?_));have rb:=nV (r:=r) e;dsimp only;have lt:ia+k<a.size->R r b ib<=R r a (ia+k):=λz=>by have:=By (E5 k (bE _) (by lia));lia
 by_cases k0:k>0
 ·have M3:=MI.A4 c.hA c.hB k M (by lia) λ_ i hi=>by have:=Df (w8 i hi);lia
  rw[if_pos k0];by_cases z:ia+k+1=a.size
  ·walk_at"h";exact wpS_pure (D _ g _ ⟨_,_,rfl,c.last M3 z⟩)
  ·walk_at"i";by_cases z2:ia+k=a.size
   ·rw[if_pos (by simpa using z2)];exact wpS_pure (D _ g _ ⟨_,_,rfl,M3.Iy c.hA c.hB z2⟩)
   ·rw[if_neg (by simpa using z2)];exact Et c (g.kind.trans hk) M3 (by lia) (lt (by lia)) h2 (by lia) (D _ g) (Y _ g)
 ·rw[if_neg k0];obtain rfl:k=0:=by lia
  exact Et c (g.kind.trans hk) M h1 (lt (by exact AI ‹_›)) h2 hN (D _ g) (Y _ g)
theorem JD{Q:ForInStep zD->SortSt->Prop}(c:MC prog w A s κ r P a b)(M:MI r a b out ia ib)(h1:ia+1<a.size)(lt:R r b ib<=R r a ia)(h2:ib<b.size)(hN:N<=ia+ib+1)(D:∀ c,HS r a b c->Q (.done c) st)(Y:∀ c,LI r a b N c->Q (.done c) st/\Q (.yield c) st):wpS (model prog w) A E s (loA a b mg bc ia ib out) Q st:=by
 refine wpS_bind (aP h2 λp e=>?_);have M2:=M.uP c.hA c.hB e λ_=>lt;by_cases z:ib+1=b.size
 ·walk_at"h";exact wpS_pure (D _ ⟨_,_,rfl,M2.Iq c.hA c.hB z⟩)
 ·walk_at"i";have y:=Y _ ⟨_,_,_,0,bc+1,rfl,M2,h1,by lia,hN⟩;split
  ·exact wpS_pure y.1
  ·exact wpS_pure y.2
theorem JK{Q:ForInStep zD->SortSt->Prop}(c:MC prog w A s κ r P a b)(M:MI r a b out ia ib)(h1:ia+1<a.size)(lt:R r a ia<=R r b ib)(h2:ib<b.size)(hN:N<=ia+ib+1)(D:∀ c,HS r a b c->Q (.done c) st)(Y:∀ c,LI r a b N c->Q (.done c) st/\Q (.yield c) st):wpS (model prog w) A E s (loB a b mg ac ia ib out) Q st:=by
 refine wpS_bind (aP (by exact AI ‹_›) λp e=>?_);have M2:=M.uB c.hA c.hB e λ_=>lt;by_cases z:ia+1+1=a.size
 ·walk_at"h";exact wpS_pure (D _ ⟨_,_,rfl,c.last M2 z⟩)
 ·walk_at"i";have y:=Y _ ⟨_,_,_,ac+1,0,rfl,M2,by lia,h2,by lia⟩;split
  ·exact wpS_pure y.1
  ·exact wpS_pure y.2
theorem Je{Q:ForInStep zD->SortSt->Prop}{x:Nat}(c:MC prog w A s κ r P a b)(hk:kindOf st=κ)(M:MI r a b out ia ib)(h1:ia+1<a.size)(h2:ib<b.size)(hN:N<=ia+ib+1)(D:∀ c,HS r a b c->Q (.done c) st)(Y:∀ c,LI r a b N c->Q (.done c) st/\Q (.yield c) st):wpS (model prog w) A E s (loI a b mg x (none,out,ia,ib,ac,bc)) Q st:=by
 refine wpS_bind (aP h2 λpb eb=>wpS_bind (aP (show ia<a.size by exact AI ‹_›) λpa ea=>wpS_bind (tK c.C hk (c.pb.at eb) (c.pa.at ea) ?_)));have rb:R r b ib=r pb.1:=nV eb;have ra:R r a ia=r pa.1:=nV ea;dsimp only;by_cases hw:r pb.1<r pa.1
 ·rw[if_pos (decide_eq_true hw)];exact JD c M h1 (by lia) h2 hN D Y
 ·rw[if_neg (by simpa using hw)];exact JK c M h1 (by lia) h2 hN D Y
theorem Il{Q:ForInStep L1->SortSt->Prop}(c:MC prog w A s κ r P a b)(hk:kindOf st=κ)(M:MI r a b out ia ib)(h1:ia+1<a.size)(h2:ib<b.size)(hN:N<=ia+ib)(D:∀ ah,Mg st ah->∀ c,HS r a b c->Q (.done c) ah)(Y:∀ ah,Mg st ah->∀ out ia ib mg,MI r a b out ia ib->ia+1<a.size->ib<b.size->N<=ia+ib->Q (.yield (none,out,ia,ib,mg)) ah):wpS (model prog w) A E s (loP a b mg (none,out,ia,ib,ac,bc)) Q st:=by
 walk_at"k";refine wpS_bind (wpS_mono (wpS_forRange (I:=λ_ c ah=>Mg st ah/\LY r a b N c) (Q:=λc ah=>Mg st ah/\(HS r a b c\/LY r a b N c)) ?step ?fin ⟨.refl st,_,_,_,_,_,_,rfl,M,h1,h2,hN⟩) ?post);case fin =>
  rintro c ah ⟨hm,q⟩;exact⟨hm,.inr q⟩
 case step =>
  rintro y c1 A6 _ _ ⟨hm,out,ia,ib,mg,ac,bc,rfl,M,h1,h2,hN⟩;unfold loG;dsimp only;split<;>exact JS c (hm.kind.trans hk) M h1 h2 hN (λah g c q=>⟨hm.trans g,.inl q⟩) λah g c q=>⟨⟨hm.trans g,.inr q⟩,hm.trans g,q⟩
 case post =>
  rintro c ah ⟨hm,⟨o,rest,rfl,hM⟩|⟨out,ia,ib,mg,ac,bc,rfl,M,h1,h2,hN⟩⟩
  ·exact wpS_pure (D _ hm _ ⟨_,_,rfl,hM⟩)
  ·walk_at"aX"
theorem Jh{Q:ForInStep L1->SortSt->Prop}{x:Nat}(c:MC prog w A s κ r P a b)(hk:kindOf st=κ)(M:MI r a b out ia ib)(h1:ia+1<a.size)(h2:ib<b.size)(hN:N<=ia+ib)(D:∀ ah,Mg st ah->∀ c,HS r a b c->Q (.done c) ah)(Y:∀ ah,Mg st ah->∀ out ia ib mg,MI r a b out ia ib->ia+1<a.size->ib<b.size->N+1<=ia+ib->Q (.yield (none,out,ia,ib,mg)) ah):wpS (model prog w) A E s (loO a b x (none,out,ia,ib,mg)) Q st:=by
 refine wpS_bind (wpS_mono (wpS_forRange (I:=λy c ah=>ah=st/\LI r a b (N+y) c) (Q:=λc ah=>ah=st/\(HS r a b c\/LI r a b (N+1) c)) ?step ?fin ⟨rfl,_,_,_,_,_,rfl,M,h1,h2,hN⟩) ?post);case fin =>
  rintro c ah ⟨rfl,o,ia',ib',ac,bc,rfl,M',q1,q2,q3⟩;exact⟨rfl,.inr ⟨_,_,_,_,_,rfl,M',q1,q2,by lia⟩⟩
 case step =>
  rintro y c1 A6 _ hy ⟨rfl,o,ia',ib',ac,bc,rfl,M',q1,q2,q3⟩;exact Je (N:=N+y+1) c hk M' q1 q2 (by exact wc ‹_›) (λc q=>⟨rfl,.inl q⟩) λc q=>by obtain⟨o,ia,ib,ac,bc,rfl,M,h1,h2,h3⟩:=q;exact⟨⟨rfl,.inr ⟨_,_,_,_,_,rfl,M,h1,h2,by lia⟩⟩,rfl,_,_,_,_,_,rfl,M,h1,h2,by lia⟩
 case post =>
  rintro c1 ah ⟨rfl,⟨o,rest,rfl,hM⟩|⟨o,ia,ib,ac,bc,rfl,M',q1,q2,q3⟩⟩
  ·exact wpS_pure (D _ (.refl _) _ ⟨_,_,rfl,hM⟩)
  ·exact Il c hk M' q1 q2 q3 D Y
theorem vC{st:SortSt}{a b:Array Keyed}{Q:Array Keyed->SortSt->Prop}(C:mS prog w A s κ r P)(hk:kindOf st=κ)(Vf:AllP P a)(Vg:AllP P b)(hA:Up r a 0 a.size)(hB:Up r b 0 b.size)(na:1<=a.size)(nb:1<=b.size)(h0:R r b 0<=R r a 0) (hg:∀ j,j<b.size->R r b j<=R r a (a.size-1)) (h:∀ out ah,cZ r a b out->Mg st ah->Q out ah):wpS (model prog w) A E s (yc a b) Q st:=by
 walk_at"ab"
 rw[yw];walk_at"k";refine wpS_bind (aP nb λy0 e0=>?_);have M1:MI r a b #[y0] 0 1:=(MI.start hA hB).uP hA hB e0 λ_=>h0;by_cases c1:1=b.size
 ·rw[if_pos (by simpa using c1)];exact wpS_pure (h _ _ (M1.Iq hA hB c1) (.refl st))
 ·rw[if_neg (by simpa using c1)];by_cases c2:0+1=a.size
  ·rw[if_pos (by simpa using c2)];exact wpS_pure (h _ _ (c.last M1 c2) (.refl st))
  ·rw[if_neg (by simpa using c2)];walk_at"z";refine wpS_bind (wpS_mono (wpS_forRange (I:=λx c ah=>Mg st ah/\∃ out ia ib mg,c=(none,out,ia,ib,mg)/\MI r a b out ia ib/\ia+1<a.size/\ib<b.size/\x+1<=ia+ib) (Q:=λc ah=>Mg st ah/\HS r a b c) ?step ?fin ⟨.refl st,_,_,_,_,rfl,M1,by lia,by lia,by exact ti _⟩) ?post)
   case fin =>
    rintro c ah ⟨_,out,ia,ib,mg,rfl,M,h1,h2,h3⟩;lia
   case post =>
    rintro c ah ⟨hm,out,rest,rfl,hM⟩;exact wpS_pure (h out ah hM hm)
   case step =>
    rintro x c1 A6 _ hx ⟨ya,out,ia,ib,mg,rfl,M,h1,h2,h3⟩;exact Jh (N:=x+1) c (ya.kind.trans hk) M h1 h2 h3 (λah g c q=>⟨ya.trans g,q⟩) λah g out ia ib mg M h1 h2 h3=>⟨ya.trans g,_,_,_,_,rfl,M,h1,h2,h3⟩
end
abbrev Ge(r:Value->Int)(x y:Keyed):Prop:=r y.1<=r x.1
structure MH(r:Value->Int)(a b out:Array Keyed)(na nb:Nat):Prop where
 ha:na<=a.size
 hb:nb<=b.size
 perm:out.toList.Perm (a.toList.drop na++b.toList.drop nb)
 down:out.toList.Pairwise (Ge r)
 ga:∀ x∈out.toList,∀ i,i<na->R r a i<=r x.1
 gb:∀ x∈out.toList,∀ j,j<nb->R r b j<=r x.1
section
variable {r:Value->Int}{a b out:Array Keyed}{na nb:Nat}
theorem uJ{α:Type}{l:List α}{i:Nat}{x:α}(h0:0<i)(h:l[i-1]? = some x):l.drop (i-1)=x :: l.drop i:=by obtain⟨hi,e⟩:=pT.mp h;rw[D4 hi,e,show i-1+1=i by exact Nat.sub_add_cancel ‹_›]
theorem MH.uB(M:MH r a b out na nb)(hA:Up r a 0 a.size)(hB:Up r b 0 b.size)(h0:0<na){y:Keyed}(e:a[na-1]? = some y)(hl:0<nb->R r b (nb-1)<=R r a (na-1)):MH r a b (out.push y) (na-1) nb:=by
 have ey:=nV (r:=r) e;have ha:=M.ha;have hb:=M.hb;refine⟨by lia,M.hb,?_,?_,?_,?_⟩
 ·rw[om,uJ (x:=y) h0 (by simpa using e)];walk_at"aL";exact T7
 ·rw[om,Rn];refine⟨M.down,by simp,λx hx z hz=>?_⟩;have:z=y:=by simpa using hz
  subst this;show r z.1<=r x.1;rw[<- ey];exact M.ga x hx (na-1) (by exact B6 ‹_› B5)
 ·intro x hx i hi;rw[om] at hx;rcases eI.mp hx with hx|hx
  ·exact M.ga x hx i (by walk_at "s4")
  ·have:x=y:=by simpa using hx
   subst this;rw[<- ey];exact hA i (na-1) (dy _) (by exact ky ‹_›) (by lia)
 ·intro x hx j hj;rw[om] at hx;rcases eI.mp hx with hx|hx
  ·exact M.gb x hx j hj
  ·have:x=y:=by simpa using hx
   subst this;rw[<- ey];exact wd (hB j (nb-1) (dy _) (by lia) (by lia)) (hl (by lia))
theorem MH.uP(M:MH r a b out na nb)(hA:Up r a 0 a.size)(hB:Up r b 0 b.size)(h0:0<nb){y:Keyed}(e:b[nb-1]? = some y)(hl:0<na->R r a (na-1)<=R r b (nb-1)):MH r a b (out.push y) na (nb-1):=by
 have ey:=nV (r:=r) e;have ha:=M.ha;have hb:=M.hb;refine⟨M.ha,by lia,?_,?_,?_,?_⟩
 ·rw[om,uJ (x:=y) h0 (by simpa using e)];walk_at"aL";rw[vT];exact List.Perm.append_left _ T7
 ·rw[om,Rn];refine⟨M.down,by simp,λx hx z hz=>?_⟩;have:z=y:=by simpa using hz
  subst this;show r z.1<=r x.1;rw[<- ey];exact M.gb x hx (nb-1) (by exact B6 ‹_› B5)
 ·intro x hx i hi;rw[om] at hx;rcases eI.mp hx with hx|hx
  ·exact M.ga x hx i hi
  ·have:x=y:=by simpa using hx
   subst this;rw[<- ey];exact wd (hA i (na-1) (dy _) (by lia) (by lia)) (hl (by lia))
 ·intro x hx j hj;rw[om] at hx;rcases eI.mp hx with hx|hx
  ·exact M.gb x hx j (by walk_at "s4")
  ·have:x=y:=by simpa using hx
   subst this;rw[<- ey];exact hB j (nb-1) (dy _) (by exact ky ‹_›) (by lia)
theorem nM{xs:Array Keyed}{i n:Nat}(h:i<n)(hn:n<=xs.size):(xs.extract i n).reverse = #[xs[n-1]'(by lia)]++(xs.extract i (n-1)).reverse:=by
 obtain⟨k,rfl⟩:∃ k,n=i+(k+1):=⟨n-1-i,by lia⟩
 have e3:i+(k+1)-1=i+k:=by rfl
 simp only[e3];rw[gK (by assumption),Array.reverse_push]
theorem MH.A4(hA:Up r a 0 a.size)(hB:Up r b 0 b.size):∀ (k:Nat) {out:Array Keyed} {na p:Nat},MH r a b out na nb->p+k=na->(0<nb->∀ i,p<=i->i<na->R r b (nb-1)<=R r a i)->MH r a b (out++(a.extract p na).reverse) p nb
 |0,out,na,p,M,h1,h2=>by
  have:a.extract p na = #[]:=RB (by simp only[EC];lia);have e:na=p:=by walk_at "s1"
  subst e;rw[this];simpa using M
 |k+1,out,na,p,M,h1,h2=>by have ha:=M.ha;have e:a[na-1]? = some (a[na-1]'(by lia)):=getElem?_pos a (na-1) (by lia);have q:=M.uB hA hB (by lia) e λhb=>h2 hb _ (by lia) (by lia);have z:=MH.A4 hA hB k (p:=p) q (by lia) λhb i qB oy=>h2 hb i qB (by walk_at "s4");rw[nM (by lia) ha,<- GN];simpa using z
theorem MH.A5(hA:Up r a 0 a.size)(hB:Up r b 0 b.size):∀ (k:Nat) {out:Array Keyed} {nb p:Nat},MH r a b out na nb->p+k=nb->(0<na->∀ i,p<=i->i<nb->R r a (na-1)<=R r b i)->MH r a b (out++(b.extract p nb).reverse) na p
 |0,out,nb,p,M,h1,h2=>by
  have:b.extract p nb = #[]:=RB (by simp only[EC];lia);have e:nb=p:=by walk_at "s1"
  subst e;rw[this];simpa using M
 |k+1,out,nb,p,M,h1,h2=>by have hb:=M.hb;have e:b[nb-1]? = some (b[nb-1]'(by lia)):=getElem?_pos b (nb-1) (by lia);have q:=M.uP hA hB (by lia) e λha=>h2 ha _ (by lia) (by lia);have z:=MH.A5 hA hB k (p:=p) q (by lia) λha i qB oy=>h2 ha i qB (by walk_at "s4");rw[nM (by lia) hb,<- GN];simpa using z
theorem MH.whole(M:MH r a b out 0 0):cZ r a b out.reverse:=by
 refine⟨?_,?_⟩
 ·have h:=M.perm;rw[List.drop_zero,List.drop_zero] at h;rw[Array.toList_reverse];exact(List.reverse_perm _).trans h
 ·rw[Array.toList_reverse,List.pairwise_reverse];exact M.down
theorem sE(x y:Array Keyed):(x++y.reverse).reverse=y++x.reverse:=by apply RD.mp;simp
theorem MH.Iy(M:MH r a b out na nb)(hA:Up r a 0 a.size)(hB:Up r b 0 b.size)(e:na=0):cZ r a b (a.extract 0 na++b.extract 0 nb++out.reverse):=by
 subst e;have z:=MH.A5 hA hB nb (p:=0) M (by exact LG ..) λha=>absurd ha (oi _);have q:=z.whole;rw[sE] at q;have e2:a.extract 0 0 = #[]:=by simp
 rw[e2,Array.empty_append];exact q
theorem MH.Iq(M:MH r a b out na nb)(hA:Up r a 0 a.size)(hB:Up r b 0 b.size)(e:nb=0):cZ r a b (a.extract 0 na++b.extract 0 nb++out.reverse):=by
 subst e;have z:=MH.A4 hA hB na (p:=0) M (by exact LG ..) λhb=>absurd hb (oi _);have q:=z.whole;rw[sE] at q;have e2:b.extract 0 0 = #[]:=by simp
 rw[e2,Uo];exact q
theorem MH.xZ(M:MH r a b out na nb)(hA:Up r a 0 a.size)(hB:Up r b 0 b.size)(e:nb=1)(hl:∀ i,i<a.size->R r b 0<=R r a i):cZ r a b (b.extract 0 nb++a.extract 0 na++out.reverse):=by subst e;have ha:=M.ha;have z:=MH.A4 hA hB na (p:=0) M (by exact LG ..) λ_ i _ hi=>hl i (by walk_at "s1");have z2:=MH.A5 hA hB 1 (p:=0) z (by exact LG ..) λh=>absurd h (oi _);have q:=z2.whole;rw[sE,sE] at q;rw[GN];exact q
theorem MH.start:MH r a b #[] a.size b.size:=⟨bE _,bE _,by simp,by simp,λx hx=>by simp at hx,λx hx=>by simp at hx⟩
end
abbrev S1:=Option (Array Keyed) × Nat × Nat × Array Keyed × Nat
abbrev S2:=Option (Array Keyed) × Nat × Nat × Array Keyed × Nat × Nat
abbrev S3:=Option (Array Keyed) × Nat × Nat × Array Keyed × Nat × Nat × Nat
def DL(a b out:Array Keyed)(na nb:Nat):Array Keyed:=a.extract 0 na++b.extract 0 nb++out.reverse
def SG(a b out:Array Keyed)(na nb:Nat):Array Keyed:=b.extract 0 nb++a.extract 0 na++out.reverse
def Vh(a b:Array Keyed)(mg ac bc na nb:Nat)(out:Array Keyed):SM (ForInStep S3):=elem' a (na-1) >>= λp =>
 if (na-1 == 0)=true then pure (.done (some (DL a b (out.push p) (na-1) nb),na-1,nb,out.push p,mg,ac,bc))
 else if (decide (ac<7) && decide (bc<7))=true then pure (.done (none,na-1,nb,out.push p,mg,ac,bc)) else pure (.yield (none,na-1,nb,out.push p,mg,ac,bc))
def oy(a b:Array Keyed)(mg ac bc na nb:Nat)(out:Array Keyed):SM (ForInStep S3):=elem' a (na-1) >>= λp=>mF true p b 0 nb (nb-1) >>= λx=>match x with
 |some k=>if nb-k>0 then
   if (k == 1)=true then pure (.done (some (SG a b (out++(b.extract k nb).reverse) na k),na,k,out++(b.extract k nb).reverse,mg,ac,nb-k))
   else if (k == 0)=true then pure (.done (some (DL a b (out++(b.extract k nb).reverse) na k),na,k,out++(b.extract k nb).reverse,mg,ac,nb-k))
   else Vh a b mg ac (nb-k) na k (out++(b.extract k nb).reverse)
  else Vh a b mg ac (nb-k) na nb out
 |_=>pure (.done (some (DL a b out na nb),na,nb,out,mg,ac,bc))
def qB(a b:Array Keyed)(mg ac bc na nb:Nat)(out:Array Keyed):SM (ForInStep S3):=elem' b (nb-1) >>= λp =>
 if (nb-1 == 1)=true then pure (.done (some (SG a b (out.push p) na (nb-1)),na,nb-1,out.push p,mg,ac,bc)) else oy a b mg ac bc na (nb-1) (out.push p)
def Oy(a b:Array Keyed)(mg ac bc na nb:Nat)(out:Array Keyed):SM (ForInStep S3):=b7 mg >>= λ_=>elem' b (nb-1) >>= λp=>mF false p a 0 na (na-1) >>= λx=>match x with
 |some k=>if na-k>0 then
   if (k == 0)=true then pure (.done (some (DL a b (out++(a.extract k na).reverse) k nb),k,nb,out++(a.extract k na).reverse,mg,na-k,bc))
   else qB a b mg (na-k) bc k nb (out++(a.extract k na).reverse)
  else qB a b mg (na-k) bc na nb out
 |_=>pure (.done (some (DL a b out na nb),na,nb,out,mg,ac,bc))
def hiG(a b:Array Keyed)(_:Nat)(s:S3):SM (ForInStep S3) :=
 if s.2.2.2.2.1>1 then Oy a b (s.2.2.2.2.1-1) s.2.2.2.2.2.1 s.2.2.2.2.2.2 s.2.1 s.2.2.1 s.2.2.2.1 else Oy a b s.2.2.2.2.1 s.2.2.2.2.2.1 s.2.2.2.2.2.2 s.2.1 s.2.2.1 s.2.2.2.1
def hiA(a b:Array Keyed)(mg ac na nb:Nat)(out:Array Keyed):SM (ForInStep S2):=elem' a (na-1) >>= λp =>
 if (na-1 == 0)=true then pure (.done (some (DL a b (out.push p) (na-1) nb),na-1,nb,out.push p,ac+1,0))
 else if ac+1 >= mg then pure (.done (none,na-1,nb,out.push p,ac+1,0)) else pure (.yield (none,na-1,nb,out.push p,ac+1,0))
def hiB(a b:Array Keyed)(mg bc na nb:Nat)(out:Array Keyed):SM (ForInStep S2):=elem' b (nb-1) >>= λp =>
 if (nb-1 == 1)=true then pure (.done (some (SG a b (out.push p) na (nb-1)),na,nb-1,out.push p,0,bc+1))
 else if bc+1 >= mg then pure (.done (none,na,nb-1,out.push p,0,bc+1)) else pure (.yield (none,na,nb-1,out.push p,0,bc+1))
def hiI(a b:Array Keyed)(mg:Nat)(_:Nat)(s:S2):SM (ForInStep S2):=elem' b (s.2.2.1-1) >>= λpb=>elem' a (s.2.1-1) >>= λpa=>lt' pb pa >>= λx=>match x with
 |some w=>if w=true then hiA a b mg s.2.2.2.2.1 s.2.1 s.2.2.1 s.2.2.2.1 else hiB a b mg s.2.2.2.2.2 s.2.1 s.2.2.1 s.2.2.2.1
 |_=>pure (.done (some (DL a b s.2.2.2.1 s.2.1 s.2.2.1),s.2.1,s.2.2.1,s.2.2.2.1,s.2.2.2.2.1,s.2.2.2.2.2))
def hiP (a b:Array Keyed) (mg:Nat) (t:S2):SM (ForInStep S1):=(liftM (rule "list.sort.gallop"):SM Unit) >>= λ_ =>
 forIn [:a.size+b.size] ((none,t.2.1,t.2.2.1,t.2.2.2.1,mg+1,t.2.2.2.2.1,t.2.2.2.2.2):S3) (hiG a b) >>= λu=>match u.1 with
 |some r=>pure (.done (some r,u.2.1,u.2.2.1,u.2.2.2.1,u.2.2.2.2.1))
 |none=>b7 (u.2.2.2.2.1+1) >>= λ_=>pure (.yield (none,u.2.1,u.2.2.1,u.2.2.2.1,u.2.2.2.2.1+1))
def hiO(a b:Array Keyed)(_:Nat)(s:S1):SM (ForInStep S1):=forIn [:a.size+b.size] ((none,s.2.1,s.2.2.1,s.2.2.2.1,0,0):S2) (hiI a b s.2.2.2.2) >>= λt=>match t.1 with
 |some r=>pure (.done (some r,t.2.1,t.2.2.1,t.2.2.2.1,s.2.2.2.2))
 |none=>hiP a b s.2.2.2.2 t
def hiM (a b:Array Keyed):SM (Array Keyed):=(liftM (rule "list.sort.merge-hi"):SM Unit) >>= λ_=>elem' a (a.size-1) >>= λy =>
 if (a.size-1 == 0)=true then pure (DL a b #[y] (a.size-1) b.size)
 else if (b.size == 1)=true then pure (SG a b #[y] (a.size-1) b.size)
 else get >>= λst=>forIn [:a.size+b.size] ((none,a.size-1,b.size,#[y],gallopOf st):S1) (hiO a b) >>= λt=>match t.1 with
 |some r=>pure r
 |none=>(liftM (unsupported (α:=Array Keyed) "internal:list.sort.merge-bound"):SM (Array Keyed))
set_option smartUnfolding false in
theorem yS:ym=hiM:=rfl
section
variable {prog:Program}{w:World}{A:Around}{E:Value->Shared->Prop}{s:Shared}{κ:SortKind}{r:Value->Int}{P:Value->Prop}{a b out:Array Keyed}{mg ac bc na nb N:Nat}{st:SortSt}{Q:ForInStep S3->SortSt->Prop}
def HD(r:Value->Int)(a b:Array Keyed)(Q:ForInStep S3->SortSt->Prop)(st:SortSt):Prop:=∀ o rest,cZ r a b o->Q (.done (some o,rest)) st
def HY(r:Value->Int)(a b:Array Keyed)(N:Nat)(Q:ForInStep S3->SortSt->Prop)(st:SortSt):Prop :=
 ∀ o na nb mg ac bc,MH r a b o na nb->1<=na->2<=nb->na+nb<=N->Q (.done (none,na,nb,o,mg,ac,bc)) st/\Q (.yield (none,na,nb,o,mg,ac,bc)) st
theorem Ew(c:MC prog w A s κ r P a b)(M:MH r a b out na nb)(h1:0<na)(lt:R r b (nb-1)<=R r a (na-1))(h2:2<=nb)(hN:na+nb<=N)(D:HD r a b Q st)(Y:HY r a b N Q st):wpS (model prog w) A E s (Vh a b mg ac bc na nb out) Q st:=by
 have ha:=M.ha;walk_at"V";have M2:=M.uB c.hA c.hB h1 e λ_=>lt;by_cases z:na-1=0
 ·walk_at"h";exact wpS_pure (D _ _ (M2.Iy c.hA c.hB z))
 ·walk_at"i";have y:=Y _ _ _ mg ac bc M2 (by lia) h2 (by lia);split
  ·exact wpS_pure y.1
  ·exact wpS_pure y.2
theorem Iz(c:MC prog w A s κ r P a b)(hk:kindOf st=κ)(M:MH r a b out na nb)(h1:0<na)(h2:2<=nb)(hN:na+nb<=N)(D:HD r a b Q st)(Y:HY r a b N Q st):wpS (model prog w) A E s (oy a b mg ac bc na nb out) Q st:=by
 have ha:=M.ha;have hb:=M.hb;refine wpS_bind (aP (by lia) λp e=>wpS_bind (dY c.C hk c.pb (c.pa.at e) (by lia) (by lia) (λi j u v w=>c.hB i j u v (by lia)) λl IA HZ IB=>?_));have ra:=nV (r:=r) e;dsimp only;have lt:0<l->R r b (l-1)<=R r a (na-1):=λz=>by have:=Fy (HZ (l-1) (by exact B6 ‹_› B5));rw[Rx] at this;lia
 by_cases l0:nb-l>0
 ·have M5:=MH.A5 c.hA c.hB (nb-l) (p:=l) M (by exact si ‹_›) λ_ i qB oy=>by have:=yp (IB i qB oy);rw[Rx] at this;lia
  rw[if_pos l0];by_cases z4:l=1
  ·rw[if_pos (by simpa using z4)];exact wpS_pure (D _ _ (M5.xZ c.hA c.hB z4 c.hl))
  ·rw[if_neg (by simpa using z4)];by_cases z6:l=0
   ·rw[if_pos (by simpa using z6)];exact wpS_pure (D _ _ (M5.Iq c.hA c.hB z6))
   ·rw[if_neg (by simpa using z6)];exact Ew c M5 h1 (lt (by lia)) (by lia) (by lia) D Y
 ·rw[if_neg l0];obtain rfl:l=nb:=by lia
  exact Ew c M h1 (lt (by exact AI ‹_›)) h2 hN D Y
theorem Ej(c:MC prog w A s κ r P a b)(hk:kindOf st=κ)(M:MH r a b out na nb)(h1:0<na)(h2:2<=nb)(lt:R r a (na-1)<=R r b (nb-1))(hN:na+nb<=N)(D:HD r a b Q st)(Y:HY r a b N Q st):wpS (model prog w) A E s (qB a b mg ac bc na nb out) Q st:=by
 have hb:=M.hb;walk_at"V";have M4:=M.uP c.hA c.hB (by exact AI ‹_›) e λ_=>lt;by_cases z:nb-1=1
 ·walk_at"h";exact wpS_pure (D _ _ (M4.xZ c.hA c.hB z c.hl))
 ·walk_at"i";exact Iz c hk M4 h1 (by lia) (by lia) D Y
theorem Io(c:MC prog w A s κ r P a b)(hk:kindOf st=κ)(M:MH r a b out na nb)(h1:0<na)(h2:2<=nb)(hN:na+nb<=N)(D:∀ ah,Mg st ah->HD r a b Q ah)(Y:∀ ah,Mg st ah->HY r a b N Q ah):wpS (model prog w) A E s (Oy a b mg ac bc na nb out) Q st:=by
 have ha:=M.ha;have hb:=M.hb;have g:=(Mg.refl st).set mg;refine wpS_bind (jx ?_);refine wpS_bind (aP (by lia) λp e=>wpS_bind (dY c.C (g.kind.trans hk) c.pa (c.pb.at e) (by lia) (by exact B6 ‹_› B5) (λi j u v w=>c.hA i j u v (by lia)) λk hk1 w8 E5=>?_));have rb:=nV (r:=r) e;dsimp only;have lt:0<k->R r a (k-1)<=R r b (nb-1):=λz=>by have:=Df (w8 (k-1) (by exact B6 ‹_› B5));rw[Rx] at this;lia
 by_cases k0:na-k>0
 ·have M3:=MH.A4 c.hA c.hB (na-k) (p:=k) M (by exact si ‹_›) λ_ i qB oy=>by have:=By (E5 i qB oy);rw[Rx] at this;lia
  rw[if_pos k0];by_cases z:k=0
  ·walk_at"h";exact wpS_pure (D _ g _ _ (M3.Iy c.hA c.hB z))
  ·walk_at"i";exact Ej c (g.kind.trans hk) M3 (by lia) h2 (lt (by lia)) (by lia) (D _ g) (Y _ g)
 ·rw[if_neg k0];obtain rfl:k=na:=by lia
  exact Ej c (g.kind.trans hk) M h1 h2 (lt h1) hN (D _ g) (Y _ g)
def HI(r:Value->Int)(a b:Array Keyed)(N:Nat)(c:S2):Prop:=∃ na nb out ac bc,c=(none,na,nb,out,ac,bc)/\MH r a b out na nb/\1<=na/\2<=nb/\na+nb<=N
theorem Jr{Q:ForInStep S2->SortSt->Prop}(c:MC prog w A s κ r P a b)(M:MH r a b out na nb)(h1:0<na)(lt:R r b (nb-1)<=R r a (na-1))(h2:2<=nb)(hN:na+nb<=N+1)(D:∀ c,HS r a b c->Q (.done c) st)(Y:∀ c,HI r a b N c->Q (.done c) st/\Q (.yield c) st):wpS (model prog w) A E s (hiA a b mg ac na nb out) Q st:=by
 have ha:=M.ha;walk_at"V";have M2:=M.uB c.hA c.hB h1 e λ_=>lt;by_cases z:na-1=0
 ·walk_at"h";exact wpS_pure (D _ ⟨_,_,rfl,M2.Iy c.hA c.hB z⟩)
 ·walk_at"i";have y:=Y _ ⟨_,_,_,ac+1,0,rfl,M2,by lia,h2,by lia⟩;split
  ·exact wpS_pure y.1
  ·exact wpS_pure y.2
theorem Jw{Q:ForInStep S2->SortSt->Prop}(c:MC prog w A s κ r P a b)(M:MH r a b out na nb)(h1:0<na)(lt:R r a (na-1)<=R r b (nb-1))(h2:2<=nb)(hN:na+nb<=N+1)(D:∀ c,HS r a b c->Q (.done c) st)(Y:∀ c,HI r a b N c->Q (.done c) st/\Q (.yield c) st):wpS (model prog w) A E s (hiB a b mg bc na nb out) Q st:=by
 have hb:=M.hb;walk_at"V";have M2:=M.uP c.hA c.hB (by exact AI ‹_›) e λ_=>lt;by_cases z:nb-1=1
 ·walk_at"h";exact wpS_pure (D _ ⟨_,_,rfl,M2.xZ c.hA c.hB z c.hl⟩)
 ·walk_at"i";have y:=Y _ ⟨_,_,_,0,bc+1,rfl,M2,h1,by lia,by lia⟩;split
  ·exact wpS_pure y.1
  ·exact wpS_pure y.2
theorem Ih{Q:ForInStep S2->SortSt->Prop}{x:Nat}(c:MC prog w A s κ r P a b)(hk:kindOf st=κ)(M:MH r a b out na nb)(h1:0<na)(h2:2<=nb)(hN:na+nb<=N+1)(D:∀ c,HS r a b c->Q (.done c) st)(Y:∀ c,HI r a b N c->Q (.done c) st/\Q (.yield c) st):wpS (model prog w) A E s (hiI a b mg x (none,na,nb,out,ac,bc)) Q st:=by
 have ha:=M.ha;have hb:=M.hb;refine wpS_bind (aP (show nb-1<b.size by lia) λpb eb=>wpS_bind (aP (show na-1<a.size by lia) λpa ea=>wpS_bind (tK c.C hk (c.pb.at eb) (c.pa.at ea) ?_)));have rb:R r b (nb-1)=r pb.1:=nV eb;have ra:R r a (na-1)=r pa.1:=nV ea;dsimp only;by_cases hw:r pb.1<r pa.1
 ·rw[if_pos (decide_eq_true hw)];exact Jr c M h1 (by lia) h2 hN D Y
 ·rw[if_neg (by simpa using hw)];exact Jw c M h1 (by lia) h2 hN D Y
theorem Jb{Q:ForInStep S1->SortSt->Prop}(c:MC prog w A s κ r P a b)(hk:kindOf st=κ)(M:MH r a b out na nb)(h1:0<na)(h2:2<=nb)(hN:na+nb<=N)(D:∀ ah,Mg st ah->∀ c,HS r a b c->Q (.done c) ah)(Y:∀ ah,Mg st ah->∀ out na nb mg,MH r a b out na nb->1<=na->2<=nb->na+nb<=N->Q (.yield (none,na,nb,out,mg)) ah):wpS (model prog w) A E s (hiP a b mg (none,na,nb,out,ac,bc)) Q st:=by
 walk_at"k";refine wpS_bind (wpS_mono (wpS_forRange (I:=λ_ c ah=>Mg st ah/\∃ na nb out mg ac bc,c=(none,na,nb,out,mg,ac,bc)/\MH r a b out na nb/\1<=na/\2<=nb/\na+nb<=N) (Q:=λc ah=>Mg st ah/\(HS r a b c\/∃ na nb out mg ac bc,c=(none,na,nb,out,mg,ac,bc)/\MH r a b out na nb/\1<=na/\2<=nb/\na+nb<=N)) ?step ?fin ⟨.refl st,_,_,_,_,_,_,rfl,M,h1,h2,hN⟩) ?post)
 case fin =>
  rintro c ah ⟨hm,q⟩;exact⟨hm,.inr q⟩
 case step =>
  rintro y c1 A6 _ _ ⟨hm,na,nb,out,mg,ac,bc,rfl,M,h1,h2,hN⟩;unfold hiG;dsimp only;split<;>exact Io c (hm.kind.trans hk) M h1 h2 hN (λah g o rest hM=>⟨hm.trans g,.inl ⟨o,rest,rfl,hM⟩⟩) λah g o na nb mg ac bc M h1 h2 hN=>⟨⟨hm.trans g,.inr ⟨_,_,_,_,_,_,rfl,M,h1,h2,hN⟩⟩,hm.trans g,_,_,_,_,_,_,rfl,M,h1,h2,hN⟩
 case post =>
  rintro c ah ⟨hm,⟨o,rest,rfl,hM⟩|⟨na,nb,out,mg,ac,bc,rfl,M,h1,h2,hN⟩⟩
  ·exact wpS_pure (D _ hm _ ⟨_,_,rfl,hM⟩)
  ·walk_at"aX"
theorem JQ{Q:ForInStep S1->SortSt->Prop}{x:Nat}(c:MC prog w A s κ r P a b)(hk:kindOf st=κ)(M:MH r a b out na nb)(h1:0<na)(h2:2<=nb)(hN:na+nb<=N+1)(D:∀ ah,Mg st ah->∀ c,HS r a b c->Q (.done c) ah)(Y:∀ ah,Mg st ah->∀ out na nb mg,MH r a b out na nb->1<=na->2<=nb->na+nb<=N->Q (.yield (none,na,nb,out,mg)) ah):wpS (model prog w) A E s (hiO a b x (none,na,nb,out,mg)) Q st:=by
 have ha:=M.ha;have hb:=M.hb;refine wpS_bind (wpS_mono (wpS_forRange (I:=λy c ah=>ah=st/\HI r a b (N+1-y) c) (Q:=λc ah=>ah=st/\(HS r a b c\/HI r a b N c)) ?step ?fin ⟨rfl,_,_,_,_,_,rfl,M,h1,h2,hN⟩) ?post);case fin =>
  rintro c ah ⟨rfl,na',nc,o,ac,bc,rfl,M',q1,q2,q3⟩;exact⟨rfl,.inr ⟨_,_,_,_,_,rfl,M',q1,q2,by lia⟩⟩
 case step =>
  rintro y c1 A6 _ hy ⟨rfl,na',nc,o,ac,bc,rfl,M',q1,q2,q3⟩;exact Ih (N:=N-y) c hk M' q1 q2 (by lia) (λc q=>⟨rfl,.inl q⟩) λc q=>by obtain⟨na,nb,o,ac,bc,rfl,M,h1,h2,h3⟩:=q;exact⟨⟨rfl,.inr ⟨_,_,_,_,_,rfl,M,h1,h2,by walk_at "s4"⟩⟩,rfl,_,_,_,_,_,rfl,M,h1,h2,by lia⟩
 case post =>
  rintro c1 ah ⟨rfl,⟨o,rest,rfl,hM⟩|⟨na,nb,o,ac,bc,rfl,M',q1,q2,q3⟩⟩
  ·exact wpS_pure (D _ (.refl _) _ ⟨_,_,rfl,hM⟩)
  ·exact Jb c hk M' q1 q2 q3 D Y
theorem vA{st:SortSt}{a b:Array Keyed}{Q:Array Keyed->SortSt->Prop}(C:mS prog w A s κ r P)(hk:kindOf st=κ)(Vf:AllP P a)(Vg:AllP P b)(hA:Up r a 0 a.size)(hB:Up r b 0 b.size)(na:1<=a.size)(nb:1<=b.size)(h0:R r b 0<=R r a 0) (hg:∀ j,j<b.size->R r b j<=R r a (a.size-1)) (h:∀ out ah,cZ r a b out->Mg st ah->Q out ah):wpS (model prog w) A E s (ym a b) Q st:=by
 walk_at"ab"
 rw[yS];walk_at"k";refine wpS_bind (aP (by exact B6 ‹_› B5) λy0 e0=>?_);have M1:MH r a b #[y0] (a.size-1) b.size:=MH.start.uB hA hB na e0 λ_=>hg _ (by exact B6 ‹_› B5);by_cases c1:a.size-1=0
 ·rw[if_pos (by simpa using c1)];exact wpS_pure (h _ _ (M1.Iy hA hB c1) (.refl st))
 ·rw[if_neg (by simpa using c1)];by_cases c2:b.size=1
  ·rw[if_pos (by simpa using c2)];exact wpS_pure (h _ _ (M1.xZ hA hB c2 c.hl) (.refl st))
  ·rw[if_neg (by simpa using c2)];walk_at"z";refine wpS_bind (wpS_mono (wpS_forRange (I:=λx c ah=>Mg st ah/\∃ na nb out mg,c=(none,na,nb,out,mg)/\MH r a b out na nb/\1<=na/\2<=nb/\na+nb<=a.size+b.size-x) (Q:=λc ah=>Mg st ah/\HS r a b c) ?step ?fin ⟨.refl st,_,_,_,_,rfl,M1,by lia,by lia,by lia⟩) ?post)
   case fin =>
    rintro c ah ⟨_,na,nb,out,mg,rfl,M,h1,h2,h3⟩;lia
   case post =>
    rintro c ah ⟨hm,out,rest,rfl,hM⟩;exact wpS_pure (h out ah hM hm)
   case step =>
    rintro x c1 A6 _ hx ⟨ya,na,nb,out,mg,rfl,M,h1,h2,h3⟩;exact JQ (N:=a.size+b.size-(x+1)) c (ya.kind.trans hk) M h1 h2 (by lia) (λah g c q=>⟨ya.trans g,q⟩) λah g out na nb mg M h1 h2 h3=>⟨ya.trans g,_,_,_,_,rfl,M,h1,h2,h3⟩
end
def wr(p:Nat)(m:List Keyed)(n:Nat)(xs:Array Keyed):Array Keyed:=(m.zipIdx n).foldl (λa (q:Keyed × Nat)=>a.setIfInBounds (p+q.2) q.1) xs
theorem Bt(p:Nat):∀ (m:List Keyed) (n:Nat) (xs:Array Keyed),p+n+m.length<=xs.size->∀ k:Nat,(wr p m n xs)[k]? = if p+n<=k/\k<p+n+m.length then m[k-(p+n)]? else xs[k]?
 |[],n,xs,h,k=>by rw[if_neg (by simp only[List.length_nil];lia)];rfl
 |q :: m,n,xs,h,k=>by
  have ih:=Bt p m (n+1) (xs.setIfInBounds (p+n) q) (by rw[Array.size_setIfInBounds];simp only[oP] at h;lia) k;have e:wr p (q :: m) n xs=wr p m (n+1) (xs.setIfInBounds (p+n) q):=by unfold wr;rw[List.zipIdx_cons,List.foldl_cons]
  simp only[oP] at h ⊢;rw[e,ih];by_cases h1:p+(n+1)<=k/\k<p+(n+1)+m.length
  ·rw[if_pos h1,if_pos (by lia),show k-(p+n)=(k-(p+(n+1)))+1 by lia,List.getElem?_cons_succ]
  ·rw[if_neg h1];by_cases h2:k=p+n
   ·subst h2;rw[if_pos (by walk_at "s4"),Nat.sub_self,List.getElem?_cons_zero,Array.getElem?_setIfInBounds_self_of_lt (by lia)]
   ·rw[if_neg (by lia),Uj (by walk_at "s1")]
theorem HF{p:Nat}{m:List Keyed}{xs:Array Keyed}(h:p+m.length<=xs.size):(wr p m 0 xs).toList=xs.toList.take p++m++xs.toList.drop (p+m.length):=by
 have hl:xs.toList.length=xs.size:=by simp
 apply KW;intro k;have e:=Bt p m 0 xs h k;rw[LH] at e;rw[oj,e];by_cases h1:k<p
 ·rw[if_neg (by lia),vT,BQ (by rw[nv];lia),List.getElem?_take_of_lt h1,oj]
 ·by_cases h2:k<p+m.length
  ·rw[if_pos (by walk_at "s2"),vT,vF (by rw[nv];lia),nv,show min p xs.toList.length=p by lia,BQ (by lia)]
  ·rw[if_neg (by lia),vT,vF (by rw[nv];lia),nv,show min p xs.toList.length=p by lia,vF (by lia),List.getElem?_drop,
    show p+m.length+(k-p-m.length)=k by lia,oj]
theorem Jy{p q:Nat}{xs:Array Keyed}(h:p<=q)(h2:q<=xs.size):xs.toList=xs.toList.take p++(xs.extract p q).toList++xs.toList.drop q:=by
 rw[Um,T5];have e1:xs.toList.take p++(xs.toList.drop p).take (q-p)=xs.toList.take q:=by rw[<- FP p (xs.toList.take q),List.take_take,List.drop_take,Nat.min_eq_left h]
 rw[e1,FP]
theorem Fq{p q:Nat}{m:List Keyed}{xs:Array Keyed}(h:p<=q)(h2:q<=xs.size)(hm:m.Perm (xs.extract p q).toList):(wr p m 0 xs).Perm xs:=by
 have hl:m.length=q-p:=by rw[hm.length_eq];simp;lia
 rw[Uk,HF (by lia),show p+m.length=q by lia];have e:=Jy (xs:=xs) h h2;exact(List.Perm.append_right _ (List.Perm.append_left _ hm)).trans (by rw[<- e])
def Runs(r:Value->Int)(xs:Array Keyed):List (Nat × Nat × Nat)->Nat->Nat->Prop
 |[],a,b=>a=b
 | (s,n,_) :: rest,a,b=>s=a/\1<=n/\Up r xs s (s+n)/\Runs r xs rest (s+n) b
section
variable {r:Value->Int}{xs ys:Array Keyed}
theorem Runs.le:∀ {ps:List (Nat × Nat × Nat)} {a b:Nat},Runs r xs ps a b->a+ps.length<=b
 |[],a,b,h=>by simp only[Runs] at h;simp;lia
 | (s,n,p) :: rest,a,b,h=>by obtain⟨rfl,h1,_,h3⟩:=h;have:=Runs.le h3;simp only[oP];lia
theorem Runs.append:∀ {ps qs:List (Nat × Nat × Nat)} {a b:Nat},Runs r xs (ps++qs) a b↔∃ c,Runs r xs ps a c/\Runs r xs qs c b
 |[],qs,a,b=>by simp[Runs]
 | (s,n,p) :: rest,qs,a,b=>by
  simp only[List.cons_append,Runs];constructor
  ·rintro⟨h1,h2,h3,h4⟩;obtain⟨c,h5,h6⟩:=Runs.append.mp h4;exact⟨c,⟨h1,h2,h3,h5⟩,h6⟩
  ·rintro⟨c,⟨h1,h2,h3,h5⟩,h6⟩;exact⟨h1,h2,h3,Runs.append.mpr ⟨c,h5,h6⟩⟩
theorem Up.congr{a b:Nat}(h:Up r xs a b)(e:∀ k,a<=k->k<b->ys[k]? = xs[k]?):Up r ys a b:=λi j h1 h2 h3=>by rw[eF (e i h1 (by walk_at "s1")),eF (e j (by walk_at "s1") h3)];exact h i j h1 h2 h3
theorem Runs.congr:∀ {ps:List (Nat × Nat × Nat)} {a b:Nat},Runs r xs ps a b->(∀ k,a<=k->k<b->ys[k]? = xs[k]?)->Runs r ys ps a b
 |[],a,b,h,_=>h
 | (s,n,p) :: rest,a,b,h,e=>by obtain⟨rfl,h1,h2,h3⟩:=h;have l:=h3.le;exact⟨rfl,h1,h2.congr λk u v=>e k u (by lia),Runs.congr h3 λk u v=>e k (by walk_at "s4") v⟩
theorem Up.glue{a b c:Nat}(h1:Up r xs a b)(h2:Up r xs b c)(h:∀ i j,a<=i->i<b->b<=j->j<c->R r xs i<=R r xs j):Up r xs a c:=λi j u v w=>by
 by_cases hj:j<b
 ·exact h1 i j u v hj
 ·by_cases hi:i<b
  ·exact h i j u hi (by exact qa ‹_›) w
  ·exact h2 i j (by exact qa ‹_›) v w
end
section
variable {prog:Program}{w:World}{A:Around}{E:Value->Shared->Prop}{s:Shared}{κ:SortKind}{r:Value->Int}{P:Value->Prop}
theorem AllP.extract{xs:Array Keyed}(h:AllP P xs)(i j:Nat):AllP P (xs.extract i j):=λp hp=>h p (by
 rw[Um,T5] at hp;exact T9 (T_ hp))
theorem fV{xs:Array Keyed}{i j k:Nat}(h:i+k<j)(hj:j<=xs.size):R r (xs.extract i j) k=R r xs (i+k):=by apply eF;rw[RC,if_pos (by lia)]
theorem Up.extract{xs:Array Keyed}{i j:Nat}(h:Up r xs i j)(kF:i<=j)(hj:j<=xs.size):Up r (xs.extract i j) 0 (xs.extract i j).size:=λa b _ h2 h3=>by
 have e:(xs.extract i j).size=j-i:=by simp only[EC];lia
 rw[e] at h3;rw[fV (by lia) hj,fV (by lia) hj];exact h _ _ (by exact xv _ _) (by lia) (by lia)
theorem Bo{xs:Array Keyed}{m:Array Keyed}{sa k na nc nb:Nat}(hz:sa+na+nb<=xs.size)(hk:k<na)(hnb:nc<=nb)(hA:Up r xs sa (sa+na))(hB:Up r xs (sa+na) (sa+na+nb))(lo1:∀ i,i<k->R r xs (sa+i)<=R r xs (sa+na)) (E4:R r xs (sa+na)<R r xs (sa+k)) (qB:∀ i,i<nc->R r xs (sa+na+i)<R r xs (sa+na-1)) (oy:∀ i,nc<=i->i<nb->R r xs (sa+na-1)<=R r xs (sa+na+i))(hm:cZ r (xs.extract (sa+k) (sa+na)) (xs.extract (sa+na) (sa+na+nc)) m) :
  Up r (wr (sa+k) m.toList 0 xs) sa (sa+na+nb)/\(wr (sa+k) m.toList 0 xs).Perm xs/\∀ j,j<sa\/sa+na+nb<=j->(wr (sa+k) m.toList 0 xs)[j]? = xs[j]? := by
 obtain⟨mp,mu⟩:=hm;have eab:(xs.extract (sa+k) (sa+na)).toList++(xs.extract (sa+na) (sa+na+nc)).toList=(xs.extract (sa+k) (sa+na+nc)).toList:=by rw[<- Array.toList_append,Array.extract_append_extract,show min (sa+k) (sa+na)=sa+k by lia,show max (sa+na) (sa+na+nc)=sa+na+nc by lia]
 rw[eab] at mp;have ml:m.toList.length=na+nc-k:=by rw[mp.length_eq];simp;lia
 have hw:sa+k+m.toList.length<=xs.size:=by lia
 have get:=Bt (sa+k) m.toList 0 xs (by lia);rw[LH,ml] at get
 -- every merged item is one of the on'
 have mem:∀ (j:Nat) (p:Keyed),m.toList[j]? = some p->∃ i,sa+k<=i/\i<sa+na+nc/\r p.1=R r xs i:=λj p e=>by
  have hp:p∈(xs.extract (sa+k) (sa+na+nc)).toList:=mp.mem_iff.mp (rp e);obtain⟨i,hi⟩:=List.getElem?_of_mem hp;rw[oj,RC] at hi;split at hi
  ·exact⟨sa+k+i,by exact xv _ _,by lia,(nV hi).symm⟩
  ·cases hi
 have low:∀ i,sa+k<=i->i<sa+na+nc->R r xs (sa+na)<=R r xs i:=λi h1 h2=>by
  by_cases h3:i<sa+na
  ·exact wd (y6 E4) (hA (sa+k) i (by exact xv _ _) h1 h3)
  ·exact hB (sa+na) i (bE _) (by exact qa ‹_›) (by walk_at "s4")
 have high:∀ i,sa+k<=i->i<sa+na+nc->R r xs i<=R r xs (sa+na-1):=λi h1 h2=>by
  by_cases h3:i<sa+na
  ·exact hA i (sa+na-1) (by lia) (by lia) (by lia)
  ·have:=qB (i-(sa+na)) (by lia);rw[show sa+na+(i-(sa+na))=i by exact si (qa ‹_›)] at this;exact y6 ‹_›
 have Rin:∀ j,j<na+nc-k->∃ i,sa+k<=i/\i<sa+na+nc/\R r (wr (sa+k) m.toList 0 xs) (sa+k+j)=R r xs i:=λj hj=>by
  have e:=get (sa+k+j);rw[if_pos (by lia),show sa+k+j-(sa+k)=j by exact Uh ..] at e;have wx:j<m.toList.length:=by lia
  obtain⟨i,h1,h2,h3⟩:=mem j m.toList[j] (AG wx);rw[AG wx] at e;exact⟨i,h1,h2,(nV e).trans h3⟩
 have IC:∀ j,j<sa+k\/sa+na+nc<=j->(wr (sa+k) m.toList 0 xs)[j]? = xs[j]? := λj hj=>by have e:=get j;rw[if_neg (by lia)] at e;exact e
 refine⟨?_,Fq (by lia) (by lia) mp,λj hj=>IC j (by lia)⟩;have U1:Up r (wr (sa+k) m.toList 0 xs) sa (sa+k):=Up.congr (xs:=xs) (λi j h1 h2 h3=>hA i j h1 h2 (by lia)) λj h1 h2=>IC j (.inl h2);have U2:Up r (wr (sa+k) m.toList 0 xs) (sa+k) (sa+na+nc):=λi j h1 h2 h3=>by
  have ei:=get i;have ej:=get j;rw[if_pos (by lia)] at ei ej;have li:i-(sa+k)<m.toList.length:=by lia
  have lj:j-(sa+k)<m.toList.length:=by lia
  rw[AG li] at ei;rw[AG lj] at ej;rw[nV ei,nV ej];by_cases kF:i=j
  ·subst kF;exact wm _
  ·exact(T6.mp mu) _ _ li lj (by lia)
 have U3:Up r (wr (sa+k) m.toList 0 xs) (sa+na+nc) (sa+na+nb):=Up.congr (xs:=xs) (λi j h1 h2 h3=>hB i j (by lia) h2 h3) λj h1 h2=>IC j (.inr h1);refine(U1.glue U2 λi j h1 h2 h3 h4=>?_).glue U3 λi j h1 h2 h3 h4=>?_
 ·obtain⟨q,q1,q2,q3⟩:=Rin (j-(sa+k)) (by lia);rw[show sa+k+(j-(sa+k))=j by exact si ‹_›] at q3;rw[q3,eF (IC i (.inl h2))];have:=lo1 (i-sa) (by lia);rw[show sa+(i-sa)=i by exact si ‹_›] at this;exact wd this (low q q1 q2)
 ·have e2:=oy (j-(sa+na)) (by lia) (by lia);rw[show sa+na+(j-(sa+na))=j by lia] at e2;rw[eF (IC j (.inr h3))];by_cases hi:i<sa+k
  ·rw[eF (IC i (.inl hi))];have:=lo1 (i-sa) (by lia);rw[show sa+(i-sa)=i by exact si ‹_›] at this;have:=low (sa+na-1) (by lia) (by lia);lia
  ·obtain⟨q,q1,q2,q3⟩:=Rin (i-(sa+k)) (by lia);rw[show sa+k+(i-(sa+k))=i by exact si (qa ‹_›)] at q3;rw[q3];exact wd (high q q1 q2) e2
structure St(r:Value->Int)(κ:SortKind)(dS:Array Keyed)(st:SortSt)(ps:List (Nat × Nat × Nat))(lo:Nat):Prop where
 kind:kindOf st=κ
 failed:failedOf st=none
 perm:(arrOf st).Perm dS
 pend:pendingOf st=ps.toArray
 runs:Runs r (arrOf st) ps 0 lo
theorem St.size{dS:Array Keyed}{st:SortSt}{ps:List (Nat × Nat × Nat)}{lo:Nat}(h:St r κ dS st ps lo):(arrOf st).size=dS.size:=h.perm.size_eq
theorem Dm{ps:List (Nat × Nat × Nat)}{i:Nat}(h:i+1<ps.length):∃ pre x y post,ps=pre++x :: y :: post/\pre.length=i:=by refine⟨ps.take i,ps[i],ps[i+1],ps.drop (i+2),?_,by rw[nv];lia⟩;rw[<- D4 (by lia),<- D4 (by exact AI ‹_›),FP]
theorem nH{st:SortSt}{dS:Array Keyed}{ps:List (Nat × Nat × Nat)}{lo i:Nat}{Q:Bool->SortSt->Prop}(C:mS prog w A s κ r P)(hP:AllP P dS)(H:St r κ dS st ps lo)(DE:lo<=dS.size)(hi:i+1<ps.length)(h:∀ ah g9,St r κ dS ah g9 lo->g9.length+1=ps.length->g9≠[]->(∀ k,lo<=k->(arrOf ah)[k]? = (arrOf st)[k]?)->Q true ah):wpS (model prog w) A E s (mergeAt' i) Q st:=by
 obtain⟨pre,⟨sa,na,pa⟩,⟨sb,nb,pb⟩,post,rfl,DC⟩:=Dm hi;have hz:=H.size;have qk:AllP P (arrOf st):=hP.perm H.perm;obtain⟨c,hr1,hr2⟩:=Runs.append.mp H.runs;obtain⟨rfl,n1,u1,rfl,n2,u2,hr3⟩:=hr2;have le3:=hr3.le;have le1:=hr1.le
 -- the new pending list
 have jX':((pendingOf st).setIfInBounds i (sa,na+nb,pa)).eraseIdxIfInBounds (i+1)=(pre++(sa,na+nb,pa) :: post).toArray:=by rw[H.pend];apply RD.mp;simp[<- DC,List.eraseIdx_append_of_length_le]
 have new:∀ (xs:Array Keyed) (g:Nat),xs.Perm (arrOf st)->(∀ j,j<sa\/sa+na+nb<=j->xs[j]? = (arrOf st)[j]?)->Up r xs sa (sa+(na+nb)) ->
   St r κ dS (SortSt.mk' (kindOf st) xs (pre++(sa,na+nb,pa) :: post).toArray g (failedOf st)) (pre++(sa,na+nb,pa) :: post) lo:=λxs g hp ho hu =>
  ⟨H.kind,H.failed,hp.trans H.perm,rfl,Runs.append.mpr ⟨sa,hr1.congr λk _ hk=>ho k (.inl hk),rfl,by walk_at "s4",hu,by
   rw[show sa+(na+nb)=sa+na+nb by exact(Ee ..).symm];exact hr3.congr λk hk _=>ho k (.inr hk)⟩⟩
 have len:(pre++(sa,na+nb,pa) :: post).length+1=(pre++(sa,na,pa) :: (sa+na,nb,pb) :: post).length:=by simp;exact Ee ..
 have e0:(pendingOf st)[i]? = some (sa,na,pa):=by rw[H.pend,<- DC];simp
 have e1:(pendingOf st)[i+1]? = some (sa+na,nb,pb):=by rw[H.pend,<- DC];simp
 walk_at"z";rw[e0,e1];dsimp only;refine wpS_bind (wpS_modify (f:=λ_=>SortSt.mk' (kindOf st) (arrOf st) (((pendingOf st).setIfInBounds i (sa,na+nb,pa)).eraseIdxIfInBounds (i+1)) (gallopOf st) (failedOf st)) ?_);rw[jX'];refine wpS_bind (aP (xs:=arrOf st) (by lia) λkb ekb=>wpS_bind (dY (arr:=arrOf st) C H.kind qk (qk.at ekb) (by lia) (by assumption) u1 λk hk1 w8 E5=>?_));have rkb:=nV (r:=r) ekb;dsimp only;by_cases z:na-k=0
 ·walk_at"h";walk_at"L";rw[show sa+(na+nb)=sa+na+nb by exact(Ee ..).symm];refine u1.glue u2 λi j h1 h2 h3 h4=>?_;have:=Df (w8 (i-sa) (by lia));rw[show sa+(i-sa)=i by exact si ‹_›] at this;have:=u2 (sa+na) j (bE _) h3 h4;lia
 ·walk_at"i";refine wpS_bind (aP (xs:=arrOf st) (by lia) λka eka=>wpS_bind (dY (arr:=arrOf st) C H.kind qk (qk.at eka) (by lia) (by exact B6 ‹_› B5) u2 λl IA HZ IB=>?_));have rka:=nV (r:=r) eka;rw[show sa+k+(na-k)-1=sa+na-1 by lia] at rka;dsimp only;by_cases z2:l=0
  ·rw[if_pos (by simpa using z2)];walk_at"L";rw[show sa+(na+nb)=sa+na+nb by exact(Ee ..).symm];refine u1.glue u2 λi j h1 h2 h3 h4=>?_;have:=yp (IB (j-(sa+na)) (by lia) (by lia));rw[show sa+na+(j-(sa+na))=j by exact si ‹_›] at this;have:=u1 i (sa+na-1) h1 (by lia) (by lia);lia
  ·rw[if_neg (by simpa using z2)];have lo1:∀ i,i<k->R r (arrOf st) (sa+i)<=R r (arrOf st) (sa+na):=λi hi=>by have:=Df (w8 i hi);lia
   have E4:R r (arrOf st) (sa+na)<R r (arrOf st) (sa+k):=by have:=By (E5 k (bE _) (by lia));lia
   have qB:∀ i,i<l->R r (arrOf st) (sa+na+i)<R r (arrOf st) (sa+na-1):=λi hi=>by have:=Fy (HZ i hi);lia
   have oy:∀ i,l<=i->i<nb->R r (arrOf st) (sa+na-1)<=R r (arrOf st) (sa+na+i):=λi h1 h2=>by have:=yp (IB i h1 h2);lia
   have sx:((arrOf st).extract (sa+k) (sa+na)).size=na-k:=by simp only[EC];lia
   have sy:((arrOf st).extract (sa+na) (sa+na+l)).size=l:=by simp only[EC];lia
   have ux:Up r ((arrOf st).extract (sa+k) (sa+na)) 0 ((arrOf st).extract (sa+k) (sa+na)).size:=Up.extract (λi j h1 h2 h3=>u1 i j (by lia) h2 h3) (by lia) (by lia);have uy:Up r ((arrOf st).extract (sa+na) (sa+na+l)) 0 ((arrOf st).extract (sa+na) (sa+na+l)).size:=Up.extract (λi j h1 h2 h3=>u2 i j h1 h2 (by walk_at "s4")) (by exact xv _ _) (by lia);have h00:R r ((arrOf st).extract (sa+na) (sa+na+l)) 0<=R r ((arrOf st).extract (sa+k) (sa+na)) 0:=by rw[fV (by lia) (by lia),fV (by lia) (by lia)];exact y6 E4
   have hgg:∀ j,j<((arrOf st).extract (sa+na) (sa+na+l)).size->R r ((arrOf st).extract (sa+na) (sa+na+l)) j<=R r ((arrOf st).extract (sa+k) (sa+na)) (((arrOf st).extract (sa+k) (sa+na)).size-1):=λj hj=>by rw[sx,fV (by lia) (by lia),fV (by lia) (by lia),show sa+k+(na-k-1)=sa+na-1 by lia];exact y6 (qB j (by lia))
   have fin:∀ out ah,cZ r ((arrOf st).extract (sa+k) (sa+na)) ((arrOf st).extract (sa+na) (sa+na+l)) out->Mg (SortSt.mk' (kindOf st) (arrOf st) (pre++(sa,na+nb,pa) :: post).toArray (gallopOf st) (failedOf st)) ah ->
     Q true (SortSt.mk' (kindOf ah) (wr (sa+k) out.toList 0 (arrOf ah)) (pendingOf ah) (gallopOf ah) (failedOf ah)):=λout ah hm hg=>by
    obtain⟨g,rfl⟩:=hg;obtain⟨m1,m2,m3⟩:=Bo (by lia) (by lia) IA u1 u2 lo1 E4 qB oy hm;exact h _ _ (new _ g m2 m3 (by rw[show sa+(na+nb)=sa+na+nb by exact(Ee ..).symm];exact m1)) len (by simp) λk hk=>m3 k (.inr (by lia))
   have fin2:∀ out ah,cZ r ((arrOf st).extract (sa+k) (sa+na)) ((arrOf st).extract (sa+na) (sa+na+l)) out->Mg (SortSt.mk' (kindOf st) (arrOf st) (pre++(sa,na+nb,pa) :: post).toArray (gallopOf st) (failedOf st)) ah ->
     failedOf ah=none:=λout ah _ hg=>by
    obtain⟨g,rfl⟩:=hg;exact H.failed
   by_cases z3:na-k<=l
   ·rw[if_pos z3];refine wpS_bind (vC (a:=(arrOf st).extract (sa+k) (sa+na)) (b:=(arrOf st).extract (sa+na) (sa+na+l)) C H.kind (qk.extract _ _) (qk.extract _ _) ux uy (by lia) (by lia) h00 hgg λout ah hm hg=>?_);refine wpS_bind (wpS_modify (wpS_bind (wpS_get ?_)));have f:=fin out ah hm hg;have f2:=fin2 out ah hm hg;refine wpS_pure ?_;show Q (failedOf ah).isNone _;rw[f2];exact f
   ·rw[if_neg z3];refine wpS_bind (vA (a:=(arrOf st).extract (sa+k) (sa+na)) (b:=(arrOf st).extract (sa+na) (sa+na+l)) C H.kind (qk.extract _ _) (qk.extract _ _) ux uy (by lia) (by lia) h00 hgg λout ah hm hg=>?_);refine wpS_bind (wpS_modify (wpS_bind (wpS_get ?_)));have f:=fin out ah hm hg;have f2:=fin2 out ah hm hg;refine wpS_pure ?_;show Q (failedOf ah).isNone _;rw[f2];exact f
theorem Runs.modify{xs:Array Keyed}{f:Nat × Nat × Nat->Nat × Nat × Nat}(hf:∀ x,(f x).1=x.1/\(f x).2.1=x.2.1):∀ {ps:List (Nat × Nat × Nat)} {i a b:Nat},Runs r xs ps a b->Runs r xs (ps.modify i f) a b
 |[],_,_,_,h=>by simpa using h
 | (s,n,p) :: rest,0,a,b,h=>by obtain⟨h1,h2⟩:=hf (s,n,p);rw[List.modify_zero_cons];have e:f (s,n,p)=(s,n,(f (s,n,p)).2.2):=Prod.ext h1 (Prod.ext h2 rfl);rw[e];exact h
 | (s,n,p) :: rest,i+1,a,b,h=>by rw[List.modify_succ_cons];obtain⟨h1,h2,h3,h4⟩:=h;exact⟨h1,h2,h3,Runs.modify hf h4⟩
theorem St.win{dS:Array Keyed}{st ah:SortSt}{ps:List (Nat × Nat × Nat)}{lo hi:Nat}(H:St r κ dS st ps lo)(hw:kR lo hi st ah):St r κ dS ah ps lo :=
 ⟨hw.kind.trans H.kind,hw.failed.trans H.failed,hw.perm.trans H.perm,hw.pend.trans H.pend,H.runs.congr λk _ hk=>hw.out k (.inl hk)⟩
theorem wpS_sortRuns{st:SortSt}{Q:Unit->SortSt->Prop}(C:mS prog w A s κ r P)(hk:kindOf st=κ)(hP:AllP P (arrOf st))(hp:pendingOf st = #[])(hf:failedOf st=none)(h:∀ ah,(arrOf ah).Perm (arrOf st)->failedOf ah=none->Up r (arrOf ah) 0 (arrOf st).size->Q () ah):wpS (model prog w) A E s sortRuns' Q st:=by
 rw[sortRuns'_eq];walk_at"z";dsimp only;generalize ha:arrOf st=dS at *
 have H0:St r κ dS st [] 0:=⟨hk,hf,by rw[ha],by rw[hp],rfl⟩
 refine wpS_bind (wpS_mono (wpS_forRange (I:=λx c ah=>∃ ps lo,c=(none,lo)/\St r κ dS ah ps lo/\lo<=dS.size/\x<=lo) (Q:=λc ah=>∃ ps,c=(none,dS.size)/\St r κ dS ah ps dS.size) ?step ?fin ⟨[],0,rfl,H0,dy _,bE _⟩) ?post)
 case fin =>
  rintro c ah ⟨ps,lo,rfl,H,h1,h2⟩;have:lo=dS.size:=by lia
  subst this;exact⟨ps,rfl,H⟩
 case post =>
  rintro c ah ⟨ps,rfl,H⟩;dsimp only;have l0:=H.runs.le;refine wpS_bind (wpS_mono (wpS_forRange (I:=λy c ah=>c=(none,())/\∃ g9,St r κ dS ah g9 dS.size/\g9.length+y<=dS.size) (Q:=λc ah=>c=(none,())/\∃ g9,St r κ dS ah g9 dS.size/\g9.length<=1) ?jZ' ?SJ ⟨rfl,ps,H,by lia⟩) ?ka')
  case SJ =>
   rintro c ah ⟨rfl,g9,H',hl⟩;exact⟨rfl,g9,H',by lia⟩
  case ka' =>
   rintro c ah ⟨rfl,g9,H',hl⟩;refine wpS_pure (h ah H'.perm H'.failed ?_);have q:=H'.runs
   match g9,hl,q with
   |[],_,q =>have q:0=dS.size:=q;intro i j _ _ hj;lia
   |[(s',n',p')],_,q =>obtain⟨rfl,_,hu,e⟩:=q;have e:0+n'=dS.size:=e;rw[<- e];exact hu
  case jZ' =>
   rintro y c A6 _ hy ⟨rfl,g9,H',hl⟩;walk_at"z";have ep:(pendingOf A6).size=g9.length:=by rw[H'.pend];simp
   by_cases z:(pendingOf A6).size<=1
   ·rw[if_pos z];exact wpS_pure ⟨rfl,g9,H',by lia⟩
   ·rw[if_neg z];refine wpS_bind (nH C hP H' (bE _) (by(repeat' split)<;>lia) λmE ps2 H2 hlen _ _=>?_);walk_at"aZ";exact wpS_pure ⟨rfl,ps2,H2,by lia⟩
 case step =>
  rintro x c A6 _ hx ⟨ps,lo,rfl,H,h1,h2⟩;dsimp only;by_cases z:lo >= dS.size
  ·rw[if_pos z];have:lo=dS.size:=by lia
   subst this;exact wpS_pure ⟨ps,rfl,H⟩
  ·rw[if_neg z];have hz:=H.size;refine wpS_bind (wpS_countRun C H.kind (hP.perm H.perm) (by lia) (by lia) λm mE hw ya qq hu=>?_);have H2:=H.win hw;dsimp only;refine Ft (K:=?K) ?pk λkey=>?main;case main =>
    by_cases z2:m<minRun' dS.size dS.size 0
    ·rw[if_pos z2];walk_at"k";refine wpS_bind (wpS_binarySort C H2.kind (hP.perm H2.perm) (by clear key;have:=H2.size;lia) (by clear key;lia) hu λkP hw3 Vi=>?_);have H3:=H2.win hw3;walk_at"aZ";have b1:1<=min (dS.size-lo) (minRun' dS.size dS.size 0):=by clear key;lia
     have b2:lo+min (dS.size-lo) (minRun' dS.size dS.size 0)<=dS.size:=by clear key;lia
     clear hw3;generalize min (dS.size-lo) (minRun' dS.size dS.size 0)=nn at *
     revert nn kP;exact key
    ·rw[if_neg z2];exact key _ H2 _ hu ya (by lia)
   intro kP H3 nn Vi b1 b2;walk_at"z";have push:∀ (ah:SortSt) (g9:List (Nat × Nat × Nat)),St r κ dS ah g9 lo->Up r (arrOf ah) lo (lo+nn)->∃ ps E2,((none:Option Unit),lo+nn)=(none,E2)/\St r κ dS (setPending ah ((pendingOf ah).push (lo,nn,0))) ps E2/\E2<=dS.size/\x+1<=E2:=λah g9 G u =>
    ⟨g9++[(lo,nn,0)],lo+nn,rfl,⟨G.kind,G.failed,G.perm,by show(pendingOf ah).push _=_;rw[G.pend];simp,Runs.append.mpr ⟨lo,G.runs,rfl,b1,u,rfl⟩⟩,b2,by lia⟩
   cases hb:(pendingOf kP).back? with
   |none =>dsimp only;exact wpS_bind (wpS_modify (wpS_pure (push kP ps H3 Vi)))
   |some t =>
    obtain⟨s1,n1,p1⟩:=t;dsimp only;generalize power' dS.size (2*s1+n1) (2*s1+n1+n1+nn) dS.size=pw;refine wpS_bind (wpS_mono (wpS_forRange (I:=λy c ah=>c=(none,())/\∃ g9,St r κ dS ah g9 lo/\Up r (arrOf ah) lo (lo+nn)) (Q:=λc ah=>c=(none,())/\∃ g9,St r κ dS ah g9 lo/\Up r (arrOf ah) lo (lo+nn)) ?_ (λ_ _ q=>q) ⟨rfl,ps,H3,Vi⟩) ?_)
    ·rintro y c px _ hy ⟨rfl,g9,H4,OL⟩;walk_at"z";have ep:(pendingOf px).size=g9.length:=by rw[H4.pend];simp
     by_cases z3:(pendingOf px).size>1
     ·rw[if_pos z3];have e4:(pendingOf px)[(pendingOf px).size-2]? = some ((pendingOf px)[(pendingOf px).size-2]'(by lia)):=getElem?_pos _ _ (by lia);rw[e4];generalize (pendingOf px)[(pendingOf px).size-2]'(by lia)=tt;obtain⟨t1,t2,kb'⟩:=tt;dsimp only;by_cases z4:kb'<=pw
      ·rw[if_pos z4];exact wpS_pure ⟨rfl,g9,H4,OL⟩
      ·rw[if_neg z4];refine wpS_bind (nH C hP H4 h1 (by lia) λtF ps5 H5 hlen _ A7=>?_);walk_at"aZ";exact wpS_pure ⟨rfl,ps5,H5,OL.congr λk hk _=>A7 k hk⟩
     ·rw[if_neg z3];exact wpS_pure ⟨rfl,g9,H4,OL⟩
    ·rintro c px ⟨rfl,g9,H4,OL⟩;dsimp only;refine wpS_bind (wpS_modify (wpS_bind (wpS_modify (wpS_pure ?_))));refine push _ (g9.modify (g9.length-1) λx=>(x.1,x.2.1,pw)) ⟨H4.kind,H4.failed,H4.perm,?_,Runs.modify (f:=λx=>(x.1,x.2.1,pw)) (λ_=>⟨rfl,rfl⟩) H4.runs⟩ OL;show(pendingOf px).modify ((pendingOf px).size-1) (λx=>(x.1,x.2.1,pw))=_;rw[H4.pend];simp
def fH (h:Heap) (a:Addr) (vs:List Value):Heap:=((h.update a (Obj.mapSeq λ_=>#[])).push (seqObj "tuple" vs.toArray 0)).push (seqObj "list" #[] 0)
theorem nY{h:Heap}{a b:Addr}{vs:List Value}(hb:b≠a)(eu:b<h.objs.size):(fH h a vs).get? b=h.get? b:=by
 unfold fH;rw[GA _ _ _ (by rw[size_push',GB];exact eL (rz eu)),
  GA _ _ _ (by rw[GB];exact eL eu),Heap.get?_update_ne _ _ _ _ hb]
theorem vN{vs:List Value}{xs:Array Keyed}(hp:xs.Perm (pairsOf vs))(hs:Up r xs 0 vs.length):(xs.map (·.2)).toList.Perm vs/\(xs.map (·.2)).toList.Pairwise λx y=>r x<=r y:=by
 have hl:xs.toList.Perm (vs.zip vs):=by rw[<- pairsOf_toList];exact Uk.mp hp
 have OO:∀ p,p∈xs.toList->p.1=p.2:=λp ic=>(mem_zip_self (hl.mem_iff.mp ic)).1;have e:(xs.map (·.2)).toList=xs.toList.map (·.1):=by rw[Array.toList_map];exact D5 λp ic=>(OO p ic).symm
 have hsz:xs.size=vs.length:=by rw[hp.size_eq,pairsOf_size]
 rw[e];refine⟨?_,?_⟩
 ·have h1:=hl.map (·.1);rwa[List.map_fst_zip (bE _)] at h1
 ·rw[T6];intro i j hi hj kF;have js:i<xs.size:=by simpa using hi
  have wx:j<xs.size:=by simpa using hj
  have h1:=hs i j (dy _) (ky kF) (by lia);rw[Jv js,Jv wx] at h1;simpa using h1
theorem lu {a:Addr} {vs:List Value} {n:Nat} {F:PySem.Fin->Shared->Prop} (ho:s.heap.get? a=some (seqObj "list" vs.toArray n)) (hsz:vs.length<=sizeLine) (hP:∀ v∈vs,P v)(hk:2<=vs.length->∀ (Q:SortKind->Shared->Prop),Q κ { s with heap:=fH s.heap a vs }->wpAny (model prog w) A (keyKind' vs.toArray) Q E { s with heap:=fH s.heap a vs }) (C:2<=vs.length->mS prog w A { s with heap:=fH s.heap a vs } κ r P) (h:∀ out:Array Value,out.toList.Perm vs->(out.toList.Pairwise λx y=>r x<=r y)->F (.done (.ret .none)) { s with heap:=sortedHeap s.heap a vs out }) :
  wpAny (model prog w) A (Builtin.«list.sort» ⟨[.ref a],[]⟩) F E s:=by
 rw[list_sort_plain];have ha:a<s.heap.objs.size:=da ho;refine ai (listItems_at ho rfl ?_);refine ai (listUpdate_at ho rfl ?_ (by simpa using hsz) (dy _));obtain⟨e1,sD⟩:∃ e1,(s.heap.update a (Obj.mapSeq λ_=>#[])).get? a=some (seqObj "list" #[] e1):=⟨_,get?_update_seq ho (λ_=>#[])⟩
 refine ai (seqEpoch_at sD rfl ?_);refine ai (wpAny_newTuple ?_ (by simpa using hsz));refine ai (wpAny_newList ?_ (dy _));refine wpAny_holding ?_;have SK:(fH s.heap a vs).get? a=some (seqObj "list" #[] e1):=by unfold fH;rw[GA _ _ _ (by rw[size_push',GB];exact eL (rz ha)),GA _ _ _ (by rw[GB];exact eL ha)];exact sD
 show wpAny (model prog w) A _ F E { s with heap:=fH s.heap a vs };dsimp only;have hvz:vs.toArray.size=vs.length:=by simp
 have fin:∀ ah:SortSt,(arrOf ah).Perm (pairsOf vs)->Up r (arrOf ah) 0 vs.length->F (.done (.ret .none)) { s with heap:=sortedHeap s.heap a vs ((arrOf ah).map (·.2)) }:=by intro ah hp hs;obtain⟨h1,h2⟩:=vN hp hs;exact h _ h1 h2
 by_cases h2:vs.toArray.size<2
 ·rw[if_pos h2,if_pos h2];refine ai (aE ?_);rw[StateT.run_pure];refine ai (aE ?_);dsimp only;refine ai (seqEpoch_at SK rfl ?_);refine ai (listUpdate_at SK rfl ?_ (dy _) (by rw[Array.size_map];show(pairsOf vs).size<=_;rw[pairsOf_size];exact FV ‹_›));simp only[bne_self_eq_false,gX,if_false];refine aE (fin (SortSt.mk' general' (vs.toArray.zip vs.toArray) #[] 7 none) (Array.Perm.refl _) ?_);intro i j _ kF hj;have:i=j:=by lia
  subst this;exact wm _
 ·rw[if_neg h2,if_neg h2];refine ai (hk (by exact qa ‹_›) _ ?_);refine ai (rj (wpS_sortRuns (st:=SortSt.mk' κ (vs.toArray.zip vs.toArray) #[] 7 none) (Q:=λ_ ah=>(arrOf ah).Perm (pairsOf vs)/\failedOf ah=none/\Up r (arrOf ah) 0 vs.length) (C (by exact qa ‹_›)) rfl (λp hp=>?_) rfl rfl λah a1 a2 a3=>⟨a1,a2,?_⟩) ?_ λ_ _ e=>e)
  ·have ic:p∈(pairsOf vs).toList:=hp;rw[pairsOf_toList] at ic;exact hP _ (mem_zip_self ic).2
  ·have e:(arrOf (SortSt.mk' κ (vs.toArray.zip vs.toArray) #[] 7 none)).size=vs.length:=pairsOf_size vs;rw[e] at a3;exact a3
  ·rintro⟨⟨⟩,ah⟩ s' ⟨rfl,hp,hf,hs⟩;dsimp only;refine ai (seqEpoch_at SK rfl ?_);refine ai (listUpdate_at SK rfl ?_ (dy _) (by refine fP (Nat.le_of_eq ((Array.size_map ..).trans (hp.size_eq.trans (pairsOf_size _)))) ?_;exact FV ‹_›));rw[hf];simp only[bne_self_eq_false,gX,if_false];exact aE (fin ah hp hs)
def jd (h:Heap) (vs:List Value):Heap:=((h.push (seqObj "list" #[] 0)).update h.objs.size (Obj.mapSeq (· ++ vs.toArray))).push (seqObj "list" vs.toArray 0)
theorem mQ{h:Heap}{vs:List Value}{b:Addr}{o:Obj}(hb:h.get? b=some o):(fH (jd h vs) (h.objs.size+1) vs).get? b=some o:=by
 have eu:b<h.objs.size:=da hb;have e:(jd h vs).get? b=some o:=by unfold jd;rw[GA _ _ _ (by rw[GB,size_push'];exact eL (rz eu)),Heap.get?_update_ne _ _ _ _ (eL eu),GA _ _ _ (eL eu)];exact hb
 rw[nY (eL (rz eu)) (da e)];exact e
theorem Bv{l:Addr}{vs:List Value}{Q:Value->Shared->Prop}(hl:s.heap.IsList l vs.toArray)(hsz:vs.length<=sizeLine)(hP:∀ v∈vs,P v)(hk:2<=vs.length->∀ (A':Around) (E':Value->Shared->Prop) (s':Shared),(∀ b o,s.heap.get? b=some o->s'.heap.get? b=some o)->∀ (Q:SortKind->Shared->Prop),Q κ s'->wpAny (model prog w) A' (keyKind' vs.toArray) Q E' s')(C:2<=vs.length->∀ (s':Shared),(∀ b o,s.heap.get? b=some o->s'.heap.get? b=some o)->mS prog w A.in1.in1 s' κ r P)(h:∀ (h':Heap) (out:List Value) (n:Nat),out.Perm vs->(out.Pairwise λx y=>r x<=r y)->(∀ b o,s.heap.get? b=some o->h'.get? b=some o)->h'.get? (s.heap.objs.size+1)=some (seqObj "list" out.toArray n)->Q (.ref (s.heap.objs.size+1)) { s with heap:=h' }) :
  wpAny (model prog w) A (call (.builtin "sorted") [.ref l]) Q E s:=by
 walk_at"aj";unfold Builtin.«sorted»;refine ai (m:=checkCount "sorted" 1 1 _) (aE ?_);refine ai (collect_list hl ?_ hsz);refine ai (wpAny_newList ?_ (by simpa using hsz));have SN:((s.heap.push (seqObj "list" #[] 0)).update s.heap.objs.size (Obj.mapSeq (· ++ vs.toArray))).objs.size=s.heap.objs.size+1:=by rw[GB,size_push']
 have Cb:(jd s.heap vs).get? (s.heap.objs.size+1)=some (seqObj "list" vs.toArray 0):=by unfold jd;rw[<- SN];exact gV _ rfl
 show wpAny _ _ _ _ _ { s with heap:=jd s.heap vs };rw[SN];refine ai (wpAny_holding (wpAny_call_entry slot_list_sort ⟨_,Cb,rfl⟩ entry_list_sort (lu (r:=r) (s:={ s with heap:=jd s.heap vs }) Cb hsz hP (λh2=>hk h2 _ _ _ λb o e=>mQ e) (λh2=>?_) λout a1 a2=>⟨_,rfl,?_⟩) (args_list_sort _)))
 ·exact C h2 _ λb o e=>mQ e
 ·obtain⟨n,e⟩:=sortedAll_at s.heap vs out;refine aE ⟨_,rfl,h (sortedAll s.heap vs out) out.toList n a1 a2 (λb o e=>sortedAll_old e) (by rw[Ul];exact e)⟩
end
end zv
namespace L2
open PySem PySem.Spec PyProof.Rows
def pz:Key->Key->Bool
 |.inl i,.inl j=>decide (i<j)
 |.inr x,.inr y=>ov x y
 |_,_=>false
def gv:List Key->List Key->Bool
 |a :: as,b :: bs=>if a=b then gv as bs else pz a b
 |_,_=>false
def oz:Key->Bool
 |.inl _=>true
 |.inr _=>false
def ip(k:List Key):List Bool:=k.map oz
theorem z9(x:Str):ov x x=false:=by unfold ov;simp[List.lt_irrefl]
theorem El{x y z:Str}(h:ov x y=true)(g:ov y z=true):ov x z=true:=by
 unfold ov at *
 simp only[decide_eq_true_eq] at *
 exact List.lt_trans h g
theorem kI{x y:Str}(h:x.cps.toList=y.cps.toList):x=y:=by cases x;cases y;simp only at h;rw[RD.mp h]
theorem Ck{x y:Str}(h:ov x y=false)(g:ov y x=false):x=y:=by
 unfold ov at *
 simp only[decide_eq_false_iff_not] at *
 apply kI;exact List.le_antisymm (List.not_lt.mp g) (List.not_lt.mp h)
theorem z7(a:Key):pz a a=false:=by cases a with|inl i=>simp[pz]|inr x=>exact z9 x
theorem JZ{a b c:Key}(h:pz a b=true)(g:pz b c=true):pz a c=true:=by cases a<;>cases b<;>cases c<;>simp only[pz,decide_eq_true_eq] at *<;>first|lia|contradiction|exact El h g
theorem GR{a b:Key}(e:oz a=oz b)(h:pz a b=false)(g:pz b a=false):a=b:=by
 cases a<;>cases b<;>simp only[pz,oz,decide_eq_false_iff_not] at *
 ·congr 1;lia
 ·cases e
 ·cases e
 ·congr 1;exact Ck h g
theorem wG:∀ a:List Key,gv a a=false
 |[]=>rfl
 |a :: as=>by unfold gv;rw[if_pos rfl];exact wG as
theorem wX:∀ {a b c:List Key},gv a b=true->gv b c=true->gv a c=true
 |[],_,_,h,_=>by simp[gv] at h
 |_ :: _,[],_,h,_=>by simp[gv] at h
 |_ :: _,_ :: _,[],_,g=>by simp[gv] at g
 |a :: as,b :: bs,c :: cs,h,g=>by
  unfold gv at h g ⊢;by_cases e1:a=b
  ·subst e1;rw[if_pos rfl] at h;by_cases e2:a=c
   ·subst e2;rw[if_pos rfl] at g ⊢;exact wX h g
   ·rw[if_neg e2] at g ⊢;exact g
  ·rw[if_neg e1] at h;by_cases e2:b=c
   ·subst e2;rw[if_neg e1];exact h
   ·rw[if_neg e2] at g;have t:=JZ h g;have ne:a≠c:=λe=>by subst e;rw[z7] at t;cases t
    rw[if_neg ne];exact t
theorem rQ:∀ {a b:List Key},ip a=ip b->gv a b=false->gv b a=false->a=b
 |[],[],_,_,_=>rfl
 |[],_ :: _,e,_,_=>by simp[ip] at e
 |_ :: _,[],e,_,_=>by simp[ip] at e
 |a :: as,b :: bs,e,h,g=>by
  simp only[ip,fz,List.cons.injEq] at e;unfold gv at h g;by_cases e1:a=b
  ·subst e1;rw[if_pos rfl] at h g;rw[rQ (show ip as=ip bs from e.2) h g]
  ·rw[if_neg e1] at h;rw[if_neg (Ne.symm e1)] at g;exact absurd (GR e.1 h g) e1
theorem count_le{α:Type}(p q:α->Bool):∀ (l:List α),(∀ x∈l,p x=true->q x=true)->l.countP p<=l.countP q
 |[],_=>bE _
 |x :: l,h=>by have ih:=count_le p q l λy hy=>h y (cK _ hy);have h1:=h x dv;rw[Ro,Ro];cases hp:p x<;>cases hq:q x<;>simp_all<;>exact FV ‹_›
theorem xR{α:Type}(p q:α->Bool)(a:α)(ha:p a=false)(hb:q a=true):∀ (l:List α),a∈l->(∀ x∈l,p x=true->q x=true)->l.countP p<l.countP q
 |[],m,_=>by cases m
 |x :: l,m,h=>by
  rw[Ro,Ro];rcases dc.mp m with rfl|m
  ·have:=count_le p q l λy hy=>h y (cK _ hy);rw[ha,hb];simp;exact wc ‹_›
  ·have ih:=xR p q a ha hb l m λy hy=>h y (cK _ hy);have h1:=h x dv;cases hp:p x<;>cases hq:q x<;>simp_all<;>exact rz ‹_›
def zI(L:List (List Key))(k:List Key):Int:=(L.countP λj=>gv j k:Nat)
theorem uw{L:List (List Key)}{a b:List Key}(e:ip a=ip b)(ma:a∈L):decide (zI L a<zI L b)=gv a b:=by
 unfold zI
 cases h:gv a b with
 |true =>have:=xR (λj=>gv j a) (λj=>gv j b) a (wG a) h L ma λx _ hx=>wX hx h;exact decide_eq_true (by lia)
 |false =>
  apply decide_eq_false
  cases g:gv b a with
  |false=>rw[rQ e h g];lia
  |true =>have:=count_le (λj=>gv j b) (λj=>gv j a) L λx _ hx=>wX hx g;lia
def Vj:V->Option Key
 |.int i=>some (.inl i)
 |.str x=>some (.inr x)
 |_=>none
theorem Lp(k:Key):Vj (kV k)=some k:=by cases k<;>rfl
theorem Em:∀ k:List Key,(k.map kV).filterMap Vj=k
 |[]=>rfl
 |a :: as=>by rw[fz,vS,Lp,Em as]
def pD(H:Hp):Value->List Key
 |.ref b=>match H b with
  |some (.tup xs)=>xs.filterMap Vj
  |_=>[]
 |_=>[]
theorem dG{H:Hp}{b:Addr}{k:List Key}(h:H b=some (.tup (k.map kV))):pD H (.ref b)=k:=by simp only[pD,h];exact Em k
section
variable {prog:Program}{w:World}{A:Around}{E:Value->Shared->Prop}{s:Shared}{Q:Bool->Shared->Prop}
theorem JG{a b:Key}{u v:Value}(ru:RelV (kV a) u)(rv:RelV (kV b) v)(e:oz a=oz b)(q:Q (pz a b) s):wpAny (model prog w) A (oneLt' false u v) Q E s:=by
 refine PySem.W.kat_one u v ?_
 cases a with
 |inl i =>
  cases b with
  |inr x=>cases e
  |inl j =>obtain⟨t,rfl⟩:=ru;obtain⟨t',rfl⟩:=rv;exact lt_int q
 |inr x =>
  cases b with
  |inl j=>cases e
  |inr y =>obtain⟨t,rfl⟩:=ru;obtain⟨t',rfl⟩:=rv;exact PySem.P.lt_str q
theorem JB{a b:Key}{u v:Value}(ru:RelV (kV a) u)(rv:RelV (kV b) v)(e:oz a=oz b)(q:Q (decide (a=b)) s):wpAny (model prog w) A (eqBool u v) Q E s:=by
 cases a with
 |inl i =>
  cases b with
  |inr x=>cases e
  |inl j =>obtain⟨t,rfl⟩:=ru;obtain⟨t',rfl⟩:=rv;refine wpAny_eqBool_int ?_;rw[<- aZ'];exact q
 |inr x =>
  cases b with
  |inl j=>cases e
  |inr y =>obtain⟨t,rfl⟩:=ru;obtain⟨t',rfl⟩:=rv;refine wpAny_eqBool_str ?_;rw[<- ba'];exact q
theorem Dg{fin:Bool}(k m:List Key)(us vs:List Value)(i:Nat)(ha:Vals (k.map kV) us)(hb:Vals (m.map kV) vs)(e:ip k=ip m)(hf:fin=false)(q:Q (gv k m) s) :
  PySem.W.KatLex prog w A true fin Q (us.zip vs) i s:=by
 induction k generalizing m us vs i with
 |nil =>
  cases m with
  |cons b m=>simp[ip] at e
  |nil =>rw[Paired.n0 ha,Paired.n0 hb];subst hf;exact PySem.W.kat_nil q
 |cons a k ih =>
  cases m with
  |nil=>simp[ip] at e
  |cons b m =>
   obtain⟨u,us,rfl,ra,rk⟩:=Paired.c ha;obtain⟨v,vs,rfl,rb,rm⟩:=Paired.c hb;simp only[ip,fz,List.cons.injEq] at e;rw[FR];refine PySem.W.kat_cons (JB ra rb e.1 (PySem.W.kat_go (λh=>PySem.W.kat_yes ?_) (λh=>PySem.W.kat_no ?_)))
   ·have h:=of_decide_eq_true h;subst h;unfold gv at q;rw[if_pos rfl] at q;exact ih m _ _ (i+1) rk rm e.2 q
   ·have h:=of_decide_eq_false h;unfold gv at q;rw[if_neg h] at q;by_cases h0:i=0
    ·subst h0
     cases a with
     |inr x =>
      cases b with
      |inl j=>cases e.1
      |inr y =>obtain⟨t,rfl⟩:=ra;obtain⟨t',rfl⟩:=rb;exact oneLt_str q
     |inl i =>
      cases b with
      |inr x=>cases e.1
      |inl j =>obtain⟨t,rfl⟩:=ra;obtain⟨t',rfl⟩:=rb;exact oneLt_int q
    ·rw[show(true && i == 0)=false by simp[h0]];exact JG ra rb e.1 q
end
section
variable {X:Cx}{pins:List (Addr × Obj)}{σ:St}{H:Hp}{s:Shared}
theorem Inv.tup{b:Addr}{xs:List V}(I:Inv X pins σ H s)(h:H b=some (.tup xs)):∃ its:List Value,Vals xs its/\IsTup s.heap b its.toArray:=(I.aS b _ h).2
theorem xO(I:Inv X pins σ H s){s':Shared}(kp:∀ b o,s.heap.get? b=some o->s'.heap.get? b=some o){A:Around}{L:List (List Key)}{b0:Bool}{sh:List Bool} :
  zv.mS X.prog X.w A s' (tuples' true) (λv=>zI L (pD H v)) (λv=>∃ b k,v=.ref b/\H b=some (.tup (k.map kV))/\ip k=b0 :: sh/\k∈L):=by
 rintro x y ⟨b,k,rfl,hb,hk,mk⟩ ⟨c,m,rfl,hc,hm,mm⟩ Q E q;obtain⟨us,ru,o,e1,c1,n1,d1⟩:=I.tup hb;obtain⟨vs,rv,o',e2,c2,n2,d2⟩:=I.tup hc;have Vk:ip k=ip m:=hk.trans hm.symm;simp only[dG hb,dG hc] at q;rw[uw Vk mk] at q;refine PySem.W.kat_lt (kp _ _ e1) d1 (kp _ _ e2) d2 (Dg k m us vs 0 ru rv Vk ?_ q)
 ·have h1:=ru.length;have h2:=rv.length;have h3:k.length=m.length:=by have:=congrArg List.length Vk;simpa[ip] using this
  simp only[cE] at h1 h2;exact decide_eq_false (by simp only[i5];lia)
theorem kat_tups(I:Inv X pins σ H s){s':Shared}(kp:∀ b o,s.heap.get? b=some o->s'.heap.get? b=some o){b0:Bool}{sh:List Bool}{ys:List V}{ks:List (List Key)}{vs:List Value}(ht:dg H ys ks)(hv:Vals ys vs)(hs:∀ k∈ks,ip k=b0 :: sh) :
  ∃ fs:List Value,PySem.W.KatTups s'.heap vs fs/\fs.length=vs.length/\∀ f∈fs,(b0=true->∃ i t,f=Value.int i t)/\(b0=false->∃ x t,f=Value.str x t):=by
 induction ys generalizing ks vs with
 |nil =>rw[Paired.n0 hv];exact⟨[],.nil,rfl,by simp⟩
 |cons y ys ih =>
  obtain⟨k,ks,rfl,⟨b,rfl,hb⟩,t⟩:=Paired.c ht;walk_at"aM";obtain⟨fs,f1,f2,f3⟩:=ih t rs λj hj=>hs j (cK _ hj);have hk:=hs k dv;obtain⟨us,ru,o,e1,c1,n1,d1⟩:=I.tup hb
  cases k with
  |nil=>simp[ip] at hk
  |cons a k =>
   obtain⟨u,us,rfl,ra,rr⟩:=Paired.c ru;simp only[ip,fz,List.cons.injEq] at hk;refine⟨u :: fs,.cons (kp _ _ e1) c1 d1 rfl f1,by simp[f2],λf hf=>?_⟩;rcases dc.mp hf with rfl|hf
   ·cases a with
    |inr x =>obtain⟨tk,rfl⟩:=ra;exact⟨(λz=>by rw[<- hk.1] at z;cases z),λ_=>⟨_,_,rfl⟩⟩
    |inl i =>obtain⟨tk,rfl⟩:=ra;exact⟨λ_=>⟨_,_,rfl⟩,λz=>by rw[<- hk.1] at z;cases z⟩
   ·exact f3 f hf
end
def yh(K:PySem.W.Frag):List V->Hp->VK->Prop:=λxs H Q=>match xs with
 |[.ref p]=>∃ ys ks sh,eJ K H p ys/\dg H ys ks/\(∀ k∈ks,ip k=true :: sh) /\
   ∀ zs ms l,dg H zs ms->ms.Perm ks->(ms.Pairwise λa b=>gv b a=false)->H l=none->Q (.ref l) (upd H l (.lst zs))
 |_=>False
theorem dg.keys{H:Hp}{ys:List V}{ks:List (List Key)}{vs:List Value}(h:dg H ys ks)(hv:Vals ys vs):vs.map (pD H)=ks/\∀ v∈vs,∃ b k,v=.ref b/\H b=some (.tup (k.map kV))/\k∈ks:=by
 induction ys generalizing ks vs with
 |nil=>rw[Paired.n0 hv,show ks=[] from Paired.n0 h];exact⟨rfl,by simp⟩
 |cons y ys ih =>
  obtain⟨k,ks,rfl,⟨b,rfl,g⟩,t⟩:=Paired.c h;walk_at"aM";obtain⟨e,m⟩:=ih t rs;refine⟨by rw[fz,dG g,e],λv hv=>?_⟩;rcases dc.mp hv with rfl|hv
  ·exact⟨b,k,rfl,g,dv⟩
  ·obtain⟨b',k',e1,e2,e3⟩:=m v hv;exact⟨b',k',e1,e2,cK _ e3⟩
theorem dg.of{H:Hp}{ks:List (List Key)}(vs:List Value)(h:∀ v∈vs,∃ b k,v=Value.ref b/\H b=some (.tup (k.map kV))/\k∈ks):∃ zs,dg H zs (vs.map (pD H))/\Vals zs vs:=by
 induction vs with
 |nil=>exact⟨[],.nil,.nil⟩
 |cons v vs ih =>obtain⟨zs,a,c⟩:=ih λu hu=>h u (cK _ hu);obtain⟨b,k,rfl,e,_⟩:=h v dv;exact⟨.ref b :: zs,.cons ⟨b,rfl,by rw[dG e];exact e⟩ a,.cons rfl c⟩
section
variable {X:Cx}
theorem zm:i9 X (.builtin "sorted") (yh X.K):=by
 walk_at"o";unfold yh at h;split at h
 ·rename_i p;obtain⟨ys,ks,sh,hl,ht,hs,q⟩:=h;walk_at"aG";cases ru;obtain⟨vs,rv,pl,hz⟩:=I.list hl;obtain⟨ek,mem⟩:=ht.keys rv;have hlen:=rv.length;refine zv.Bv (κ:=tuples' true) (r:=λv=>zI ks (pD H v)) (P:=λv=>∃ b k,v=.ref b/\H b=some (.tup (k.map kV))/\ip k=true :: sh/\k∈ks) pl.isList (by lia) (λv hv=>?_) (λh2 A' E' s' kp Q' q'=>?_) (λh2 s' kp=>xO I kp) λh' out n pm pw kp eo=>?_
  ·obtain⟨b,k,e1,e2,e3⟩:=mem v hv;exact⟨b,k,e1,e2,hs k e3,e3⟩
  ·obtain⟨fs,f1,f2,f3⟩:=kat_tups I kp ht rv hs;refine PySem.W.kat_kind (T:=.type "int") f1 (by lia) (λf hf=>?_) (by decide) q';obtain⟨i,t,rfl⟩:=(f3 f hf).1 rfl;exact .now
  ·obtain⟨zs,z1,z2⟩:=dg.of (H:=H) (ks:=ks) out λv hv=>mem v (pm.mem_iff.mp hv);have zl:=z2.length;have ol:=pm.length_eq;have SQ:(out.map (pD H)).Perm ks:=by rw[<- ek];exact pm.map _
   refine⟨.ref (s.heap.objs.size+1),_,I.laid (a:=s.heap.objs.size+1) (t':=s.toks) kp (Nat.le_succ _) (show fh X.prog X.w _ h' _ (.lst zs) from⟨by lia,out,n,z2,eo⟩),rfl,
    q zs _ _ z1 SQ ?_ (I.aS.fresh (Nat.le_succ _))⟩
   rw[wa];refine pw.imp_of_mem λ{x y} mx my hle=>?_;obtain⟨b,k,rfl,hb,kk⟩:=mem x (pm.mem_iff.mp mx);obtain⟨c,m,rfl,hc,km⟩:=mem y (pm.mem_iff.mp my);rw[dG hb,dG hc] at *
   have:=uw (L:=ks) ((hs m km).trans (hs k kk).symm) km;rw[<- this];exact decide_eq_false (by lia)
 ·exact h.elim
end
end L2
namespace zv
open PySem PyProof.Rows
end zv
namespace L2
open PySem PySem.Spec PyProof.Rows
def lA:Value->List Key
 |.int i _=>[.inl i]
 |.str x _=>[.inr x]
 |_=>[]
theorem mU{k:Key}{v:Value}(h:RelV (kV k) v):lA v=[k]:=by
 cases k with
 |inl i=>obtain⟨t,rfl⟩:=h;rfl
 |inr x=>obtain⟨t,rfl⟩:=h;rfl
theorem zH{a b:Key}:gv [a] [b]=pz a b:=by
 unfold gv;by_cases e:a=b
 ·subst e;rw[if_pos rfl,z7];rfl
 ·rw[if_neg e]
theorem CZ{prog:Program}{w:World}{A:Around}{s:Shared}{b:Bool}{L:List Key} :
  zv.mS prog w A s oneType' (λv=>zI (L.map λk=>[k]) (lA v)) (λv=>∃ k,RelV (kV k) v/\oz k=b/\k∈L):=by
 rintro x y ⟨k,rk,ik,mk⟩ ⟨m,rm,im,mm⟩ Q E q;simp only[mU rk,mU rm] at q;rw[uw (by simp[ip,ik,im]) (de.mpr ⟨k,mk,rfl⟩),zH] at q;rw[keyLt'_oneType]
 cases k with
 |inl i =>
  cases m with
  |inr y=>rw[<- im] at ik;cases ik
  |inl j =>obtain⟨t,rfl⟩:=rk;obtain⟨u,rfl⟩:=rm;exact oneLt_int q
 |inr x =>
  cases m with
  |inl y=>rw[<- im] at ik;cases ik
  |inr j =>obtain⟨t,rfl⟩:=rk;obtain⟨u,rfl⟩:=rm;exact oneLt_str q
theorem ints_of{ks:List Key}{vs:List Value}(r:Vals (ks.map kV) vs)(h:∀ k∈ks,oz k=true):∃ ns,IntsAre vs ns:=by
 induction ks generalizing vs with
 |nil=>rw[Paired.n0 r];exact⟨[],.nil⟩
 |cons k ks ih =>
  obtain⟨v,vs,rfl,r,rs⟩:=Paired.c r;obtain⟨ns,q⟩:=ih rs λj hj=>h j (cK _ hj);have:=h k dv
  cases k with
  |inr x=>cases this
  |inl i=>obtain⟨t,rfl⟩:=r;exact⟨_,.cons i t q⟩
theorem Hr{ks:List Key}{vs:List Value}(r:Vals (ks.map kV) vs)(h:∀ k∈ks,oz k=false):∃ ns,StrsAre vs ns:=by
 induction ks generalizing vs with
 |nil=>rw[Paired.n0 r];exact⟨[],.nil⟩
 |cons k ks ih =>
  obtain⟨v,vs,rfl,r,rs⟩:=Paired.c r;obtain⟨ns,q⟩:=ih rs λj hj=>h j (cK _ hj);have:=h k dv
  cases k with
  |inl x=>cases this
  |inr i=>obtain⟨t,rfl⟩:=r;exact⟨_,.cons i t q⟩
theorem Bd{prog:Program}{w:World}{A:Around}{E:Value->Shared->Prop}{s:Shared}{b:Bool}{ks:List Key}{vs:List Value}(r:Vals (ks.map kV) vs)(h:∀ k∈ks,oz k=b)(h2:2<=vs.length){Q:SortKind->Shared->Prop}(q:Q oneType' s) :
  wpAny (model prog w) A (keyKind' vs.toArray) Q E s:=by
 match vs,h2 with
 |v1 :: v2 :: vs,_ =>
  cases b with
  |true=>obtain⟨ns,hI⟩:=ints_of r h;rw[keyKind_ints hI];exact aE q
  |false=>obtain⟨ns,hI⟩:=Hr r h;rw[keyKind_strs hI];exact aE q
theorem keys_map{ks:List Key}{vs:List Value}(r:Vals (ks.map kV) vs):vs.map lA=ks.map λk=>[k]:=by
 induction ks generalizing vs with
 |nil=>rw[Paired.n0 r];rfl
 |cons k ks ih =>obtain⟨u,vs,rfl,r,rs⟩:=Paired.c r;rw[fz,fz,mU r,ih rs]
theorem tX{ks:List Key}(vs:List Value)(h:∀ v∈vs,∃ k,RelV (kV k) v/\k∈ks):∃ ms:List Key,Vals (ms.map kV) vs:=by
 induction vs with
 |nil=>exact⟨[],.nil⟩
 |cons v vs ih =>obtain⟨ms,r⟩:=ih λu hu=>h u (cK _ hu);obtain⟨k,rk,_⟩:=h v dv;exact⟨k :: ms,.cons rk r⟩
theorem BW:∀ {ms ks:List Key},(ms.map λk=>[k]).Perm (ks.map λk=>[k])->ms.Perm ks:=λ{ms ks} h=>by have:=h.map (λl:List Key=>l.head?);simp only[mz] at this;have e:∀ l:List Key,l.map ((λl:List Key=>l.head?) ∘ λk=>[k])=l.map some:=λl=>D5 λ_ _=>rfl;rw[e,e] at this;have:=this.filterMap id;simpa using this
end L2
namespace L2.Q
open PySem PySem.Spec PyProof.Rows
inductive D where
 |non|bl (b:Bool)|int (i:Int)|str (x:Str)
 |list (xs:List D)|tup (xs:List D)|dK (ae:List (Key × D))|dT (ae:List (List Key × D))
mutual
/-- nothing in it can be changed -/
def D.flat:D->Bool
 |.list _=>false
 |.dK _=>false
 |.dT _=>false
 |.tup xs=>cS xs
 |_=>true
def cS:List D->Bool
 |[]=>true
 |x :: xs=>x.flat && cS xs
end
theorem tO:∀ {xs:List D},cS xs=true↔∀ x∈xs,x.flat=true
 |[]=>by simp[cS]
 |x :: xs=>by simp[cS,tO (xs:=xs)]
theorem lE{xs ys:List D}:cS (xs++ys)=(cS xs && cS ys):=by
 induction xs with
 |nil=>simp[cS]
 |cons x xs ih=>simp[cS,ih,Bool.and_assoc]
def yb:Key->Bool
 |.inl _=>true
 |.inr x=>decide (x.length<=sizeLine)
def SV(ae:List (Key × D)):Prop:=ae.length<=sizeLine/\∀ p∈ae,yb p.1=true
def SW(ae:List (List Key × D)):Prop:=ae.length<=sizeLine/\∀ p∈ae,p.1.length<=sizeLine/\∀ k∈p.1,yb k=true
mutual
inductive Rep(K:PySem.W.Frag)(H:Hp):D->V->Prop
 |non:Rep K H .non .non
 |bl (b:Bool):Rep K H (.bl b) (.bl b)
 |int (i:Int):Rep K H (.int i) (.int i)
 |str {x:Str}:x.length<=sizeLine->Rep K H (.str x) (.str x)
 |list {a:Addr} {vs:List V} {ds:List D}:vs.length<=sizeLine->eJ K H a vs->bp K H ds vs->Rep K H (.list ds) (.ref a)
 |tup {a:Addr} {vs:List V} {ds:List D}:vs.length<=sizeLine->H a=some (.tup vs)->bp K H ds vs->Rep K H (.tup ds) (.ref a)
 |dK {a:Addr} {vs:List V} {ae:List (Key × D)}:SV ae->Rd H a (.dK ((ae.map (·.1)).zip vs))->bp K H (ae.map (·.2)) vs->Rep K H (.dK ae) (.ref a)
 |dT {a:Addr} {vs:List V} {ae:List (List Key × D)}:SW ae->Rd H a (.dT ((ae.map (·.1)).zip vs))->bp K H (ae.map (·.2)) vs->Rep K H (.dT ae) (.ref a)
inductive bp(K:PySem.W.Frag)(H:Hp):List D->List V->Prop
 |nil:bp K H [] []
 |cons {d:D} {v:V} {ds:List D} {vs:List V}:Rep K H d v->bp K H ds vs->bp K H (d :: ds) (v :: vs)
end
theorem Rep.ind{K:PySem.W.Frag}{H:Hp}{m1:D->V->Prop}{m2:List D->List V->Prop}(h0:m1 .non .non)(hb:∀ b,m1 (.bl b) (.bl b))(hi:∀ i,m1 (.int i) (.int i))(hs:∀ x,x.length<=sizeLine->m1 (.str x) (.str x))(hl:∀ a vs ds,vs.length<=sizeLine->eJ K H a vs->bp K H ds vs->m2 ds vs->m1 (.list ds) (.ref a)) (ht:∀ a vs ds,vs.length<=sizeLine->H a=some (.tup vs)->bp K H ds vs->m2 ds vs->m1 (.tup ds) (.ref a))(hk:∀ a vs ae,SV ae->Rd H a (.dK ((ae.map (·.1)).zip vs))->bp K H (ae.map (·.2)) vs->m2 (ae.map (·.2)) vs->m1 (.dK ae) (.ref a)) (hT:∀ a vs ae,SW ae->Rd H a (.dT ((ae.map (·.1)).zip vs))->bp K H (ae.map (·.2)) vs->m2 (ae.map (·.2)) vs->m1 (.dT ae) (.ref a))(hn:m2 [] []) (hc:∀ d v ds vs,Rep K H d v->bp K H ds vs->m1 d v->m2 ds vs->m2 (d :: ds) (v :: vs)):(∀ {d v},Rep K H d v->m1 d v)/\∀ {ds vs},bp K H ds vs->m2 ds vs :=
 ⟨λr=>Rep.rec (motive_1:=λd v _=>m1 d v) (motive_2:=λds vs _=>m2 ds vs) h0 hb hi (λh=>hs _ h) (λz s r ih=>hl _ _ _ z s r ih) (λz s r ih=>ht _ _ _ z s r ih) (λz s r ih=>hk _ _ _ z s r ih) (λz s r ih=>hT _ _ _ z s r ih) hn (λr s a b=>hc _ _ _ _ r s a b) r,
  λr=>bp.rec (motive_1:=λd v _=>m1 d v) (motive_2:=λds vs _=>m2 ds vs) h0 hb hi (λh=>hs _ h) (λz s r ih=>hl _ _ _ z s r ih) (λz s r ih=>ht _ _ _ z s r ih) (λz s r ih=>hk _ _ _ z s r ih) (λz s r ih=>hT _ _ _ z s r ih) hn (λr s a b=>hc _ _ _ _ r s a b) r⟩
theorem oq.k'{H:Hp}{a:Addr}{ae:List (Key × V)}{k:Key}(e:Rd H a (.dK ae)):oq H a (kV k) (pf ae k):=.inl ⟨ae,k,e,rfl,rfl⟩
theorem oq.t'{H:Hp}{a b:Addr}{ae:List (List Key × V)}{k:List Key}(e:Rd H a (.dT ae))(eb:H b=some (.tup (k.map kV))):oq H a (.ref b) (pf ae k):=.inr ⟨ae,k,b,e,rfl,eb,rfl⟩
theorem aT.rd{H H':Hp}(s:aT H H'){a:Addr}{u:HO}(h:Rd H a u):Rd H' a u:=h.imp (s _ _) λ⟨o,e⟩=>⟨o,s _ _ e⟩
theorem Rep.Ip{K:PySem.W.Frag}{H H':Hp}(s:aT H H'):(∀ {d:D} {v:V},Rep K H d v->Rep K H' d v)/\∀ {ds:List D} {vs:List V},bp K H ds vs->bp K H' ds vs :=
 Rep.ind .non .bl .int (λ_ h=>.str h) (λ_ _ _ z h _ ih=>.list z (s.lst h) ih) (λ_ _ _ z h _ ih=>.tup z (s _ _ h) ih) (λ_ _ _ kk h _ ih=>.dK kk (aT.rd s h) ih) (λ_ _ _ kk h _ ih=>.dT kk (aT.rd s h) ih) .nil λ_ _ _ _ _ _ a b=>.cons a b
theorem Rep.same{K:PySem.W.Frag}{H H':Hp}(s:aT H H'){d:D}{v:V}(r:Rep K H d v):Rep K H' d v:=(Rep.Ip s).1 r
theorem bp.same{K:PySem.W.Frag}{H H':Hp}(s:aT H H'){ds:List D}{vs:List V}(r:bp K H ds vs):bp K H' ds vs:=(Rep.Ip s).2 r
theorem bp.ind{K:PySem.W.Frag}{H:Hp}{m:List D->List V->Prop}(hn:m [] [])(hc:∀ d v ds vs,Rep K H d v->bp K H ds vs->m ds vs->m (d :: ds) (v :: vs)):∀ {ds vs},bp K H ds vs->m ds vs :=
 λr=>(Rep.ind (m1:=λ_ _=>True) (m2:=m) trivial (λ_=>trivial) (λ_=>trivial) (λ_ _=>trivial) (λ_ _ _ _ _ _ _=>trivial) (λ_ _ _ _ _ _ _=>trivial) (λ_ _ _ _ _ _ _=>trivial) (λ_ _ _ _ _ _ _=>trivial) hn λd v ds vs r s _ b=>hc d v ds vs r s b).2 r
theorem bp.length{K:PySem.W.Frag}{H:Hp}{ds:List D}{vs:List V}(r:bp K H ds vs):ds.length=vs.length :=
 bp.ind (m:=λds vs=>ds.length=vs.length) rfl (λ_ _ _ _ _ _ ih=>by rw[oP,oP,ih]) r
theorem bp.append{K:PySem.W.Frag}{H:Hp}{ds es:List D}{vs ws:List V}(r:bp K H ds vs)(t:bp K H es ws):bp K H (ds++es) (vs++ws) :=
 bp.ind (m:=λds vs=>bp K H (ds++es) (vs++ws)) t (λ_ _ _ _ h _ ih=>.cons h ih) r
theorem bp.get{K:PySem.W.Frag}{H:Hp}{ds:List D}{vs:List V}{i:Nat}{d:D}(r:bp K H ds vs)(e:ds[i]? = some d):∃ v,vs[i]? = some v/\Rep K H d v :=
 bp.ind (m:=λds vs=>∀ i d,ds[i]? = some d->∃ v,vs[i]? = some v/\Rep K H d v) (λi d e=>by simp at e) (λ_ _ _ _ h _ ih i d e=>by
  cases i with
  |zero=>simp at e;subst e;exact⟨_,rfl,h⟩
  |succ i =>
   obtain⟨v,e1,r⟩:=ih i d (by simpa using e);exact⟨v,by simpa using e1,r⟩) r i d e
theorem bp.db'{K:PySem.W.Frag}{H:Hp}{ds:List D}{vs:List V}{i:Nat}{v:V}(r:bp K H ds vs)(e:vs[i]? = some v):∃ d,ds[i]? = some d/\Rep K H d v :=
 bp.ind (m:=λds vs=>∀ i v,vs[i]? = some v->∃ d,ds[i]? = some d/\Rep K H d v) (λi d e=>by simp at e) (λ_ _ _ _ h _ ih i d e=>by
  cases i with
  |zero=>simp at e;subst e;exact⟨_,rfl,h⟩
  |succ i =>
   obtain⟨v,e1,r⟩:=ih i d (by simpa using e);exact⟨v,by simpa using e1,r⟩) r i v e
theorem bp.drop{K:PySem.W.Frag}{H:Hp}{ds:List D}{vs:List V}(n:Nat)(r:bp K H ds vs):bp K H (ds.drop n) (vs.drop n) :=
 bp.ind (m:=λds vs=>∀ n,bp K H (ds.drop n) (vs.drop n)) (λn=>by rw[List.drop_nil,List.drop_nil];exact .nil) (λ_ _ _ _ h hs ih n=>by
  cases n with
  |zero=>exact .cons h hs
  |succ n=>exact ih n) r n
theorem bp.n0{K:PySem.W.Frag}{H:Hp}{vs:List V}(h:bp K H [] vs):vs=[]:=by cases h;rfl
theorem bp.c{K:PySem.W.Frag}{H:Hp}{d:D}{ds:List D}{vs:List V}(h:bp K H (d :: ds) vs):∃ u us,vs=u :: us/\Rep K H d u/\bp K H ds us:=by
 cases h with
 |cons r rs=>exact⟨_,_,rfl,r,rs⟩
theorem bp.take{K:PySem.W.Frag}{H:Hp}{ds:List D}{vs:List V}(n:Nat)(r:bp K H ds vs):bp K H (ds.take n) (vs.take n) :=
 bp.ind (m:=λds vs=>∀ n,bp K H (ds.take n) (vs.take n)) (λn=>by rw[List.take_nil,List.take_nil];exact .nil) (λ_ _ _ _ h hs ih n=>by
  cases n with
  |zero=>exact .nil
  |succ n=>exact .cons h (ih n)) r n
mutual
/-- what is owned: a tree whose lists and ov' stand at As,ow' ox';its leaves shared (fl: and flat) -/
inductive bS(K:PySem.W.Frag)(Hs H:Hp)(fl:Bool):D->V->List Addr->Prop
 |sh {d:D} {v:V}:(fl=true->d.flat=true)->Rep K Hs d v->bS K Hs H fl d v []
 |list {a:Addr} {vs:List V} {ds:List D} {As:List Addr}:vs.length<=sizeLine->H a=some (.lst vs)->aH K Hs H fl ds vs As->bS K Hs H fl (.list ds) (.ref a) (a :: As)
 |tup {a:Addr} {vs:List V} {ds:List D} {As:List Addr}:vs.length<=sizeLine->Hs a=some (.tup vs)->cS ds=false->aH K Hs H fl ds vs As->bS K Hs H fl (.tup ds) (.ref a) As
 |dK {a:Addr} {vs:List V} {ae:List (Key × D)} {As:List Addr}:SV ae->H a=some (.dK ((ae.map (·.1)).zip vs))->aH K Hs H fl (ae.map (·.2)) vs As->bS K Hs H fl (.dK ae) (.ref a) (a :: As)
 |dT {a:Addr} {vs:List V} {ae:List (List Key × D)} {As:List Addr}:SW ae->H a=some (.dT ((ae.map (·.1)).zip vs))->aH K Hs H fl (ae.map (·.2)) vs As->bS K Hs H fl (.dT ae) (.ref a) (a :: As)
inductive aH(K:PySem.W.Frag)(Hs H:Hp)(fl:Bool):List D->List V->List Addr->Prop
 |nil:aH K Hs H fl [] [] []
 |cons {d:D} {v:V} {ds:List D} {vs:List V} {As Bs:List Addr}:bS K Hs H fl d v As->aH K Hs H fl ds vs Bs->aH K Hs H fl (d :: ds) (v :: vs) (As++Bs)
end
def Own(H:Hp)(a:Addr):Prop:=(∃ vs,H a=some (.lst vs))\/(∃ ae,H a=some (.dK ae))\/∃ ae,H a=some (.dT ae)
section
variable {K:PySem.W.Frag}{Hs aw H H':Hp}{fl:Bool}
theorem Own.ne{a:Addr}(h:Own H a):H a≠none:=by rcases h with⟨_,e⟩|⟨_,e⟩|⟨_,e⟩<;>rw[e]<;>exact λz=>nomatch z
theorem Own.Ff{a:Addr}{vs:List V}(h:Own H a):H a≠some (.tup vs):=by rcases h with⟨_,e⟩|⟨_,e⟩|⟨_,e⟩<;>rw[e]<;>exact λz=>nomatch z
theorem bS.ind{m1:D->V->List Addr->Prop}{m2:List D->List V->List Addr->Prop}(hs:∀ d v,(fl=true->d.flat=true)->Rep K Hs d v->m1 d v [])(hl:∀ a vs ds As,vs.length<=sizeLine->H a=some (.lst vs)->aH K Hs H fl ds vs As->m2 ds vs As->m1 (.list ds) (.ref a) (a :: As)) (ht:∀ a vs ds As,vs.length<=sizeLine->Hs a=some (.tup vs)->cS ds=false->aH K Hs H fl ds vs As->m2 ds vs As->m1 (.tup ds) (.ref a) As)(hk:∀ a vs ae As,SV ae->H a=some (.dK ((ae.map (·.1)).zip vs))->aH K Hs H fl (ae.map (·.2)) vs As->m2 (ae.map (·.2)) vs As->m1 (.dK ae) (.ref a) (a :: As)) (hT:∀ a vs ae As,SW ae->H a=some (.dT ((ae.map (·.1)).zip vs))->aH K Hs H fl (ae.map (·.2)) vs As->m2 (ae.map (·.2)) vs As->m1 (.dT ae) (.ref a) (a :: As))(hn:m2 [] [] []) (hc:∀ d v ds vs As Bs,bS K Hs H fl d v As->aH K Hs H fl ds vs Bs->m1 d v As->m2 ds vs Bs->m2 (d :: ds) (v :: vs) (As++Bs)):(∀ {d v As},bS K Hs H fl d v As->m1 d v As)/\∀ {ds vs As},aH K Hs H fl ds vs As->m2 ds vs As :=
 ⟨λr=>bS.rec (motive_1:=λd v As _=>m1 d v As) (motive_2:=λds vs As _=>m2 ds vs As) (λf r=>hs _ _ f r) (λz s r ih=>hl _ _ _ _ z s r ih) (λz s n r ih=>ht _ _ _ _ z s n r ih) (λz s r ih=>hk _ _ _ _ z s r ih) (λz s r ih=>hT _ _ _ _ z s r ih) hn (λr s a b=>hc _ _ _ _ _ _ r s a b) r,
  λr=>aH.rec (motive_1:=λd v As _=>m1 d v As) (motive_2:=λds vs As _=>m2 ds vs As) (λf r=>hs _ _ f r) (λz s r ih=>hl _ _ _ _ z s r ih) (λz s n r ih=>ht _ _ _ _ z s n r ih) (λz s r ih=>hk _ _ _ _ z s r ih) (λz s r ih=>hT _ _ _ _ z s r ih) hn (λr s a b=>hc _ _ _ _ _ _ r s a b) r⟩
theorem w9{a:Addr}{p:Prop}(h:a∈([]:List Addr)):p:=absurd h xo
theorem bS.dc':(∀ {d:D} {v:V} {As:List Addr},bS K Hs H fl d v As->∀ a∈As,Own H a)/\∀ {ds:List D} {vs:List V} {As:List Addr},aH K Hs H fl ds vs As->∀ a∈As,Own H a :=
 bS.ind (m1:=λ_ _ As=>∀ a∈As,Own H a) (m2:=λ_ _ As=>∀ a∈As,Own H a) (λ_ _ _ _ a h=>w9 h) (λ_ _ _ _ _ e _ ih a h=>(dc.mp h).elim (λz=>z ▸ .inl ⟨_,e⟩) (ih a)) (λ_ _ _ _ _ _ _ _ ih=>ih) (λ_ _ _ _ _ e _ ih a h=>(dc.mp h).elim (λz=>z ▸ .inr (.inl ⟨_,e⟩)) (ih a)) (λ_ _ _ _ _ e _ ih a h=>(dc.mp h).elim (λz=>z ▸ .inr (.inr ⟨_,e⟩)) (ih a)) (λa h=>w9 h) λ_ _ _ _ _ _ _ _ i1 i2 a h=>(eI.mp h).elim (i1 a) (i2 a)
theorem bS.own{d:D}{v:V}{As:List Addr}(r:bS K Hs H fl d v As):∀ a∈As,Own H a:=bS.dc'.1 r
theorem aH.own{ds:List D}{vs:List V}{As:List Addr}(r:aH K Hs H fl ds vs As):∀ a∈As,Own H a:=bS.dc'.2 r
theorem bS.Ke(s:aT Hs aw):(∀ {d:D} {v:V} {As:List Addr},bS K Hs H fl d v As->(∀ a∈As,H' a=H a)->bS K aw H' fl d v As)/\∀ {ds:List D} {vs:List V} {As:List Addr},aH K Hs H fl ds vs As->(∀ a∈As,H' a=H a)->aH K aw H' fl ds vs As :=
 bS.ind (m1:=λd v As=>(∀ a∈As,H' a=H a)->bS K aw H' fl d v As) (m2:=λds vs As=>(∀ a∈As,H' a=H a)->aH K aw H' fl ds vs As) (λ_ _ f r _=>.sh f (r.same s)) (λ_ _ _ _ z e _ ih k=>.list z ((k _ dv).trans e) (ih λa h=>k a (cK _ h))) (λ_ _ _ _ z e n _ ih k=>.tup z (s _ _ e) n (ih k)) (λ_ _ _ _ z e _ ih k=>.dK z ((k _ dv).trans e) (ih λa h=>k a (cK _ h))) (λ_ _ _ _ z e _ ih k=>.dT z ((k _ dv).trans e) (ih λa h=>k a (cK _ h))) (λ_=>.nil) λ_ _ _ _ _ _ _ _ i1 i2 k=>.cons (i1 λa h=>k a (gE _ h)) (i2 λa h=>k a (dQ _ h))
theorem bS.fA(s:aT Hs aw){d:D}{v:V}{As:List Addr}(r:bS K Hs H fl d v As)(k:∀ a∈As,H' a=H a):bS K aw H' fl d v As:=(bS.Ke s).1 r k
theorem aH.fA(s:aT Hs aw){ds:List D}{vs:List V}{As:List Addr}(r:aH K Hs H fl ds vs As)(k:∀ a∈As,H' a=H a):aH K aw H' fl ds vs As:=(bS.Ke s).2 r k
theorem bS.grow{d:D}{v:V}{As:List Addr}(s:aT Hs aw)(t:aT H H')(r:bS K Hs H fl d v As):bS K aw H' fl d v As :=
 r.fA s λa h=>by
  cases e:H a with
  |none=>exact absurd e (r.own a h).ne
  |some o=>exact t a o e
theorem aH.grow{ds:List D}{vs:List V}{As:List Addr}(s:aT Hs aw)(t:aT H H')(r:aH K Hs H fl ds vs As):aH K aw H' fl ds vs As :=
 r.fA s λa h=>by
  cases e:H a with
  |none=>exact absurd e (r.own a h).ne
  |some o=>exact t a o e
theorem bS.rep2{G:Hp}(s:aT Hs G):(∀ {d:D} {v:V} {As:List Addr},bS K Hs H fl d v As->(∀ a∈As,G a=H a)->Rep K G d v)/\∀ {ds:List D} {vs:List V} {As:List Addr},aH K Hs H fl ds vs As->(∀ a∈As,G a=H a)->bp K G ds vs :=
 bS.ind (m1:=λd v As=>(∀ a∈As,G a=H a)->Rep K G d v) (m2:=λds vs As=>(∀ a∈As,G a=H a)->bp K G ds vs) (λ_ _ _ r _=>r.same s) (λ_ _ _ _ z e _ ih k=>.list z (.inl (.inl ((k _ dv).trans e))) (ih λa h=>k a (cK _ h))) (λ_ _ _ _ z e n _ ih k=>.tup z (s _ _ e) (ih k)) (λ_ _ _ _ z e _ ih k=>.dK z (.inl ((k _ dv).trans e)) (ih λa h=>k a (cK _ h))) (λ_ _ _ _ z e _ ih k=>.dT z (.inl ((k _ dv).trans e)) (ih λa h=>k a (cK _ h))) (λ_=>.nil) λ_ _ _ _ _ _ _ _ i1 i2 k=>.cons (i1 λa h=>k a (gE _ h)) (i2 λa h=>k a (dQ _ h))
theorem bS.rep{G:Hp}(s:aT Hs G){d:D}{v:V}{As:List Addr}(r:bS K Hs H fl d v As)(k:∀ a∈As,G a=H a):Rep K G d v:=(bS.rep2 s).1 r k
theorem Rep.Bg{G:Hp}(t:∀ a vs,H a=some (.tup vs)->G a=some (.tup vs)):(∀ {d:D} {v:V},Rep K H d v->d.flat=true->Rep K G d v)/\∀ {ds:List D} {vs:List V},bp K H ds vs->cS ds=true->bp K G ds vs :=
 Rep.ind (m1:=λd v=>d.flat=true->Rep K G d v) (m2:=λds vs=>cS ds=true->bp K G ds vs) (λ_=>.non) (λb _=>.bl b) (λi _=>.int i) (λ_ h _=>.str h) (λ_ _ _ _ _ _ _ f=>by simp[D.flat] at f) (λ_ _ _ z e _ ih f=>.tup z (t _ _ e) (ih (by simpa[D.flat] using f))) (λ_ _ _ _ _ _ _ f=>by simp[D.flat] at f) (λ_ _ _ _ _ _ _ f=>by simp[D.flat] at f) (λ_=>.nil) λ_ _ _ _ _ _ i1 i2 f=>by simp only[cS,i7] at f;exact .cons (i1 f.1) (i2 f.2)
theorem Rep.lg{G:Hp}(t:∀ a vs,H a=some (.tup vs)->G a=some (.tup vs)){d:D}{v:V}(r:Rep K H d v)(f:d.flat=true):Rep K G d v:=(Rep.Bg t).1 r f
theorem bp.lg{G:Hp}(t:∀ a vs,H a=some (.tup vs)->G a=some (.tup vs)){ds:List D}{vs:List V}(r:bp K H ds vs)(f:cS ds=true):bp K G ds vs:=(Rep.Bg t).2 r f
theorem bp.owned{ds:List D}{vs:List V}(r:bp K Hs ds vs)(f:cS ds=true):aH K Hs H fl ds vs [] :=
 bp.ind (m:=λds vs=>cS ds=true->aH K Hs H fl ds vs []) (λ_=>.nil) (λ_ _ _ _ h _ ih f=>by
  simp only[cS,i7] at f;exact .cons (As:=[]) (.sh (λ_=>f.1) h) (ih f.2)) r f
theorem bp.Jo{ds:List D}{vs:List V}(r:bp K Hs ds vs):aH K Hs H false ds vs [] :=
 bp.ind (m:=λds vs=>aH K Hs H false ds vs []) .nil (λ_ _ _ _ h _ ih=>.cons (As:=[]) (.sh (λz=>Bool.noConfusion z) h) ih) r
theorem bS.de':(∀ {d:D} {v:V} {As:List Addr},bS K Hs H fl d v As->bS K Hs H false d v As)/\∀ {ds:List D} {vs:List V} {As:List Addr},aH K Hs H fl ds vs As->aH K Hs H false ds vs As :=
 bS.ind (λ_ _ _ r=>.sh (λz=>Bool.noConfusion z) r) (λ_ _ _ _ z e _ ih=>.list z e ih) (λ_ _ _ _ z e n _ ih=>.tup z e n ih) (λ_ _ _ _ z e _ ih=>.dK z e ih) (λ_ _ _ _ z e _ ih=>.dT z e ih) .nil λ_ _ _ _ _ _ _ _ a b=>.cons a b
theorem bS.SX{d:D}{v:V}{As:List Addr}(r:bS K Hs H fl d v As):bS K Hs H false d v As:=bS.de'.1 r
theorem aH.SX{ds:List D}{vs:List V}{As:List Addr}(r:aH K Hs H fl ds vs As):aH K Hs H false ds vs As:=bS.de'.2 r
theorem bS.Gw{G:Hp}(t:∀ a vs,Hs a=some (.tup vs)->G a=some (.tup vs)):(∀ {d:D} {v:V} {As:List Addr},bS K Hs H true d v As->bS K G H true d v As)/\∀ {ds:List D} {vs:List V} {As:List Addr},aH K Hs H true ds vs As->aH K G H true ds vs As :=
 bS.ind (λ_ _ f r=>.sh f (r.lg t (f rfl))) (λ_ _ _ _ z e _ ih=>.list z e ih) (λ_ _ _ _ z e n _ ih=>.tup z (t _ _ e) n ih) (λ_ _ _ _ z e _ ih=>.dK z e ih) (λ_ _ _ _ z e _ ih=>.dT z e ih) .nil λ_ _ _ _ _ _ _ _ a b=>.cons a b
theorem bS.leaves{G:Hp}(t:∀ a vs,Hs a=some (.tup vs)->G a=some (.tup vs)){d:D}{v:V}{As:List Addr}(r:bS K Hs H true d v As):bS K G H true d v As:=(bS.Gw t).1 r
theorem aH.ind{m:List D->List V->List Addr->Prop}(hn:m [] [] [])(hc:∀ d v ds vs As Bs,bS K Hs H fl d v As->aH K Hs H fl ds vs Bs->m ds vs Bs->m (d :: ds) (v :: vs) (As++Bs)):∀ {ds vs As},aH K Hs H fl ds vs As->m ds vs As :=
 λr=>(bS.ind (m1:=λ_ _ _=>True) (m2:=m) (λ_ _ _ _=>trivial) (λ_ _ _ _ _ _ _ _=>trivial) (λ_ _ _ _ _ _ _ _ _=>trivial) (λ_ _ _ _ _ _ _ _=>trivial) (λ_ _ _ _ _ _ _ _=>trivial) hn λd v ds vs As Bs r s _ b=>hc d v ds vs As Bs r s b).2 r
theorem aH.append{ds es:List D}{vs ws:List V}{As Bs:List Addr}(r:aH K Hs H fl ds vs As)(t:aH K Hs H fl es ws Bs):aH K Hs H fl (ds++es) (vs++ws) (As++Bs) :=
 aH.ind (m:=λds vs As=>aH K Hs H fl (ds++es) (vs++ws) (As++Bs)) t (λ_ _ _ _ _ _ h _ ih=>by
  rw[vT];exact .cons h ih) r
theorem aH.c{d:D}{ds:List D}{vs:List V}{As:List Addr}(h:aH K Hs H fl (d :: ds) vs As):∃ u us A B,vs=u :: us/\As=A++B/\bS K Hs H fl d u A/\aH K Hs H fl ds us B:=by
 cases h with
 |cons r rs=>exact⟨_,_,_,_,rfl,rfl,r,rs⟩
theorem aH.length{ds:List D}{vs:List V}{As:List Addr}(r:aH K Hs H fl ds vs As):ds.length=vs.length :=
 aH.ind (m:=λds vs _=>ds.length=vs.length) rfl (λ_ _ _ _ _ _ _ _ ih=>by rw[oP,oP,ih]) r
end
inductive Sl where
 /-- shared;owned;owned and walked by a loop just now (at a) -/
 |sh (d:D)|ow (fl:Bool) (d:D)|lk (a:Addr) (fl:Bool) (d:D)
 /-- an exception,at a -/
 |xc (a:Addr)
abbrev Env:=List (Option Sl)
inductive SR(K:PySem.W.Frag)(Hs H:Hp):Env->St->List Addr->Prop
 |nil:SR K Hs H [] [] []
 |non {ρ:Env} {σ:St} {ag:List Addr} {o:Option V}:SR K Hs H ρ σ ag->SR K Hs H (none :: ρ) (o :: σ) ag
 |sh {ρ:Env} {σ:St} {ag:List Addr} {d:D} {v:V}:Rep K Hs d v->SR K Hs H ρ σ ag->SR K Hs H (some (.sh d) :: ρ) (some v :: σ) ag
 |xc {ρ:Env} {σ:St} {ag:List Addr} {a:Addr}:SR K Hs H ρ σ ag->SR K Hs H (some (.xc a) :: ρ) (some (.ref a) :: σ) ag
 |ow {ρ:Env} {σ:St} {ag As:List Addr} {fl:Bool} {d:D} {v:V}:As≠[]->bS K Hs H fl d v As->SR K Hs H ρ σ ag->SR K Hs H (some (.ow fl d) :: ρ) (some v :: σ) (As++ag)
 |lk {ρ:Env} {σ:St} {ag As:List Addr} {a:Addr} {fl:Bool} {d:D}:As≠[]->bS K Hs H fl d (.ref a) As->SR K Hs H ρ σ ag->SR K Hs H (some (.lk a fl d) :: ρ) (some (.ref a) :: σ) (As++ag)
structure Wf(Hs H:Hp):Prop where
 sub:aT Hs H
 iN:∀ a vs,H a=some (.tup vs)->Hs a=some (.tup vs)
structure dE(K:PySem.W.Frag)(Hs:Hp)(ρ:Env)(σ:St)(H:Hp)(ag:List Addr):Prop where
 sr:SR K Hs H ρ σ ag
 wf:Wf Hs H
 qE:ag.Nodup
 own:∀ a∈ag,Hs a=none
structure eS(Hs H aw H':Hp):Prop where
 all:aT H H'
 sh:aT Hs aw
 wf:Wf aw H'
 new:∀ a,aw a≠none->Hs a≠none\/H a=none
section
variable {K:PySem.W.Frag}{Hs H aw H' df' H'':Hp}
theorem eS.refl(w:Wf Hs H):eS Hs H Hs H:=⟨aT.refl _,aT.refl _,w,λ_ h=>.inl h⟩
theorem eS.trans(a:eS Hs H aw H')(b:eS aw H' df' H''):eS Hs H df' H'' :=
 ⟨a.all.trans b.all,a.sh.trans b.sh,b.wf,λc h=>by
  rcases b.new c h with h|h
  ·exact a.new c h
  ·exact .inr (a.all.free h)⟩
theorem eS.nK(g:eS Hs H aw H'){a:Addr}(h:Hs a=none)(h':H a≠none):aw a=none:=by
 cases e:aw a with
 |none=>rfl
 |some o =>
  rcases g.new a (by rw[e];exact λz=>nomatch z) with z|z
  ·exact absurd h z
  ·exact absurd z h'
theorem SR.own{ρ:Env}{σ:St}{ag:List Addr}(s:SR K Hs H ρ σ ag):∀ a∈ag,Own H a:=by
 induction s with
 |nil=>exact λa h=>w9 h
 |non _ ih=>exact ih
 |sh _ _ ih=>exact ih
 |xc _ ih=>exact ih
 |ow _ r _ ih=>exact λa h=>(eI.mp h).elim (r.own a) (ih a)
 |lk _ r _ ih=>exact λa h=>(eI.mp h).elim (r.own a) (ih a)
theorem SR.fA(s:aT Hs aw){ρ:Env}{σ:St}{ag:List Addr}(r:SR K Hs H ρ σ ag):(∀ a∈ag,H' a=H a)->SR K aw H' ρ σ ag:=by
 induction r with
 |nil=>exact λ_=>.nil
 |non _ ih=>exact λk=>.non (ih k)
 |sh h _ ih=>exact λk=>.sh (h.same s) (ih k)
 |xc _ ih=>exact λk=>.xc (ih k)
 |ow ne h _ ih=>exact λk=>.ow ne (h.fA s λa m=>k a (gE _ m)) (ih λa m=>k a (dQ _ m))
 |lk ne h _ ih=>exact λk=>.lk ne (h.fA s λa m=>k a (gE _ m)) (ih λa m=>k a (dQ _ m))
theorem dE.grow{ρ:Env}{σ:St}{ag:List Addr}(r:dE K Hs ρ σ H ag)(g:eS Hs H aw H'):dE K aw ρ σ H' ag :=
 ⟨r.sr.fA g.sh λa h=>by
  cases e:H a with
  |none=>exact absurd e (r.sr.own a h).ne
  |some o=>exact g.all a o e,g.wf,r.qE,λa h=>g.nK (r.own a h) (r.sr.own a h).ne⟩
theorem SR.length{ρ:Env}{σ:St}{ag:List Addr}(s:SR K Hs H ρ σ ag):ρ.length=σ.length:=by
 induction s with
 |nil=>rfl
 |non _ ih=>exact congrArg (· + 1) ih
 |sh _ _ ih=>exact congrArg (· + 1) ih
 |xc _ ih=>exact congrArg (· + 1) ih
 |ow _ _ _ ih=>exact congrArg (· + 1) ih
 |lk _ _ _ ih=>exact congrArg (· + 1) ih
def Ds(K:PySem.W.Frag)(Hs H:Hp)(ag:List Addr)(sl:Sl)(v:V):Prop:=match sl with
 |.sh d=>Rep K Hs d v
 |.ow fl d=>∃ As,As≠[]/\bS K Hs H fl d v As/\∀ a∈As,a∈ag
 |.lk a fl d=>∃ As,As≠[]/\bS K Hs H fl d v As/\v=.ref a/\∀ a∈As,a∈ag
 |.xc a=>v=.ref a
theorem Ds.mono{ag cc:List Addr}{sl:Sl}{v:V}(h:Ds K Hs H ag sl v)(m:∀ a∈ag,a∈cc):Ds K Hs H cc sl v:=by
 cases sl with
 |sh d=>exact h
 |xc a=>exact h
 |ow fl d =>obtain⟨As,ne,r,q⟩:=h;exact⟨As,ne,r,λa ha=>m a (q a ha)⟩
 |lk a fl d =>obtain⟨As,ne,r,e,q⟩:=h;exact⟨As,ne,r,e,λa ha=>m a (q a ha)⟩
theorem SR.get{ρ:Env}{σ:St}{ag:List Addr}{i:Nat}{sl:Sl}(s:SR K Hs H ρ σ ag)(e:ρ[i]? = some (some sl)):∃ v,σ[i]? = some (some v)/\Ds K Hs H ag sl v:=by
 induction s generalizing i with
 |nil=>simp at e
 |non s ih =>
  cases i with
  |zero=>simp at e
  |succ i=>exact ih e
 |sh r s ih =>
  cases i with
  |zero=>simp at e;subst e;exact⟨_,rfl,r⟩
  |succ i=>exact ih e
 |xc s ih =>
  cases i with
  |zero=>simp at e;subst e;exact⟨_,rfl,rfl⟩
  |succ i=>exact ih e
 |ow ne r s ih =>
  cases i with
  |zero=>simp at e;subst e;exact⟨_,rfl,_,ne,r,λa m=>gE _ m⟩
  |succ i =>obtain⟨v,e1,h⟩:=ih e;exact⟨v,e1,h.mono λa m=>dQ _ m⟩
 |lk ne r s ih =>
  cases i with
  |zero=>simp at e;subst e;exact⟨_,rfl,_,ne,r,rfl,λa m=>gE _ m⟩
  |succ i =>obtain⟨v,e1,h⟩:=ih e;exact⟨v,e1,h.mono λa m=>dQ _ m⟩
end
inductive Md where
 |sh|ow (fl:Bool)|bo
def RM(K:PySem.W.Frag)(Hs H:Hp):Md->D->V->List Addr->Prop
 |.sh,d,v,As=>As=[]/\Rep K Hs d v
 |.ow fl,d,v,As=>bS K Hs H fl d v As/\As≠[]
 |.bo,d,v,As=>As=[]/\Rep K H d v
inductive w_(K:PySem.W.Frag)(Hs H:Hp):List (Md × D)->List V->List Addr->Prop
 |nil:w_ K Hs H [] [] []
 |cons {m:Md} {d:D} {v:V} {ps:List (Md × D)} {vs:List V} {As Bs:List Addr}:RM K Hs H m d v As->w_ K Hs H ps vs Bs->w_ K Hs H ((m,d) :: ps) (v :: vs) (As++Bs)
section
variable {K:PySem.W.Frag}{Hs H aw H':Hp}
theorem RM.own{m:Md}{d:D}{v:V}{As:List Addr}(r:RM K Hs H m d v As):∀ a∈As,Own H a:=by
 cases m with
 |sh=>obtain⟨rfl,_⟩:=r;exact λa h=>w9 h
 |ow fl=>exact bS.own r.1
 |bo=>obtain⟨rfl,_⟩:=r;exact λa h=>w9 h
theorem RM.grow{m:Md}{d:D}{v:V}{As:List Addr}(r:RM K Hs H m d v As)(g:eS Hs H aw H'):RM K aw H' m d v As:=by
 cases m with
 |sh=>exact⟨r.1,r.2.same g.sh⟩
 |ow fl=>exact⟨bS.grow g.sh g.all r.1,r.2⟩
 |bo=>exact⟨r.1,r.2.same g.all⟩
theorem RM.rep{m:Md}{d:D}{v:V}{As:List Addr}(w:Wf Hs H)(r:RM K Hs H m d v As):Rep K H d v:=by
 cases m with
 |sh=>exact r.2.same w.sub
 |ow fl=>exact bS.rep w.sub r.1 λ_ _=>rfl
 |bo=>exact r.2
theorem RM.flat{m:Md}{d:D}{v:V}{As:List Addr}(w:Wf Hs H)(r:RM K Hs H m d v As)(f:d.flat=true):Rep K Hs d v:=(r.rep w).lg w.iN f
theorem w_.reps(w:Wf Hs H){ps:List (Md × D)}{vs:List V}{As:List Addr}(r:w_ K Hs H ps vs As):bp K H (ps.map (·.2)) vs:=by
 induction r with
 |nil=>exact .nil
 |cons r _ ih=>exact .cons (r.rep w) ih
end
abbrev WE:=Env->(Md->D->Prop)->Prop
abbrev WT:=Env->(Bool->Prop)->Prop
abbrev WA:=Env->(List (Md × D)->Prop)->Prop
structure n8 where
 nx:Env->Prop
 rt:Md->D->Prop
 bk:Env->Prop:=fun _=>False
 ct:Env->Prop:=fun _=>False
abbrev WS:=n8->Env->Prop
def cX(aw H:Hp)(As:List Addr):Prop:=As.Nodup/\∀ a∈As,aw a=none/\H a=none
def sd(K:PySem.W.Frag)(t:WE):TE:=λσ H Qv=>∃ Hs ρ ag Q,dE K Hs ρ σ H ag/\t ρ Q /\
 ∀ v H' aw m d As,eS Hs H aw H'->RM K aw H' m d v As->cX aw H As->Q m d->Qv v H'
def A8(K:PySem.W.Frag)(t:WT):TT:=λσ H Qv=>∃ Hs ρ ag Q,dE K Hs ρ σ H ag/\t ρ Q/\∀ b H' aw,eS Hs H aw H'->Q b->Qv b H'
def Vl(K:PySem.W.Frag)(t:WA):TA:=λσ H Qv=>∃ Hs ρ ag Q,dE K Hs ρ σ H ag/\t ρ Q /\
 ∀ vs H' aw ps As,eS Hs H aw H'->w_ K aw H' ps vs As->cX aw H As->Q ps->Qv vs H'
def yi(K:PySem.W.Frag)(L:Str->Hp->Prop)(t:WS):TS:=λD σ H=>∃ Hs ρ ag E,dE K Hs ρ σ H ag/\t E ρ /\ (∀ bq H' aw cy cc,aT Hs aw->dE K aw cy bq H' cc->E.nx cy->D.nx bq H') /\ (∀ bq H' aw cy cc,aT Hs aw->dE K aw cy bq H' cc->E.bk cy->D.bk bq H') /\ (∀ bq H' aw cy cc,aT Hs aw->dE K aw cy bq H' cc->E.ct cy->D.ct bq H') /\ (∀ v H' aw m d As,aT Hs aw->Wf aw H'->RM K aw H' m d v As->As.Nodup->(∀ a∈As,aw a=none)->E.rt m d->D.rt v H') /\
 ∀ n H',aT Hs H'->E.rt (.ow false) (.str n)->L n H'
theorem ir{K:PySem.W.Frag}{L:Str->Hp->Prop}{t:WS}{D:Ends}{σ:St}{H:Hp}{G:Prop}(x:yi K L t D σ H)(k:∀ Hs ρ ag E,dE K Hs ρ σ H ag->t E ρ -> (∀ bq H' aw cy cc,aT Hs aw->dE K aw cy bq H' cc->E.nx cy->D.nx bq H') -> (∀ bq H' aw cy cc,aT Hs aw->dE K aw cy bq H' cc->E.bk cy->D.bk bq H') -> (∀ bq H' aw cy cc,aT Hs aw->dE K aw cy bq H' cc->E.ct cy->D.ct bq H') -> (∀ v H' aw m d As,aT Hs aw->Wf aw H'->RM K aw H' m d v As->As.Nodup->(∀ a∈As,aw a=none)->E.rt m d->D.rt v H') -> (∀ n H',aT Hs H'->E.rt (.ow false) (.str n)->L n H')->G):G :=
 by
 obtain⟨Hs,ρ,ag,E,sr,h,k1,k2,k3,k4,kx⟩:=x;exact k Hs ρ ag E sr h k1 k2 k3 k4 kx
theorem iM{K:PySem.W.Frag}{L:Str->Hp->Prop}{t:WS}{D:Ends}{σ:St}{H:Hp}{G:Prop}(x:yi K L t D σ H)(k:∀ Hs ρ ag E,dE K Hs ρ σ H ag->t E ρ -> (∀ bq H' aw cy cc,aT Hs aw->dE K aw cy bq H' cc->E.nx cy->D.nx bq H') -> (∀ bq H' aw cy cc,aT Hs aw->dE K aw cy bq H' cc->E.bk cy->D.bk bq H') -> (∀ bq H' aw cy cc,aT Hs aw->dE K aw cy bq H' cc->E.ct cy->D.ct bq H') -> (∀ v H' aw m d As,aT Hs aw->Wf aw H'->RM K aw H' m d v As->As.Nodup->(∀ a∈As,aw a=none)->E.rt m d->D.rt v H')->G):G :=
 ir x λHs ρ ag E sr h k1 k2 k3 k4 _=>k Hs ρ ag E sr h k1 k2 k3 k4
theorem iq{α β γ δ:Type _}{A B C:α->β->γ->δ->Prop}{G:Prop}(x:∃ a b c d,A a b c d/\B a b c d/\C a b c d)(k:∀ a b c d,A a b c d->B a b c d->C a b c d->G):G :=
 by
 obtain⟨a,b,c,d,p,q,r⟩:=x;exact k a b c d p q r
abbrev QE(X:Cx)(K:PySem.W.Frag)(e:Expr)(t:WE):Prop:=PE X e (sd K t)
abbrev QT(X:Cx)(K:PySem.W.Frag)(e:Expr)(t:WT):Prop:=PT X e (A8 K t)
abbrev QW(X:Cx)(K:PySem.W.Frag)(e:Expr)(t:WT):Prop:=PW X e (A8 K t)
abbrev QA(X:Cx)(K:PySem.W.Frag)(es:List Expr)(t:WA):Prop:=PA X es (Vl K t)
abbrev QS(X:Cx)(K:PySem.W.Frag)(L:Str->Hp->Prop)(st:Stmt)(t:WS):Prop:=PS X st (yi K L t)
abbrev nX(X:Cx)(K:PySem.W.Frag)(L:Str->Hp->Prop)(st:List Stmt)(t:WS):Prop:=oo X st (yi K L t)
abbrev L0:Str->Hp->Prop:=λ_ _=>True
end L2.Q
namespace L2.Q
open PySem PySem.Spec PyProof.Rows
structure Kt{α:Type}(f:α->Prop):Type where
def bP{α:Type}(a:α){f:α->Prop}(_:Kt f):Prop:=f a
mutual
def D.py:D->PyData
 |.non=>.none
 |.bl b=>.bool b
 |.int i=>.int i
 |.str x=>.str x
 |.list xs=>.list (qS xs)
 |.tup xs=>.tuple (qS xs)
 |.dK _=>.none
 |.dT _=>.none
def qS:List D->List PyData
 |[]=>[]
 |x :: xs=>x.py :: qS xs
end
def cv:Nat->D->Bool
 |_,.non=>true
 |_,.bl _=>true
 |_,.int _=>true
 |_,.str x=>PyData.strOk x
 |n+1,.list xs=>xs.all (cv n)
 |n+1,.tup xs=>xs.all (cv n)
 |_,_=>false
def kg(x y:D):Bool:=PyData.eqv x.py y.py
def D.ty:D->String
 |.non => "NoneType"
 |.bl _ => "bool"
 |.int _ => "int"
 |.str _ => "str"
 |.list _ => "list"
 |.tup _ => "tuple"
 |.dK _ => "dict"
 |.dT _ => "dict"
def D.key1:D->Option Key
 |.int i=>some (.inl i)
 |.str x=>some (.inr x)
 |_=>none
def iC:List D->Option (List Key)
 |[]=>some []
 |x :: xs=>match x.key1,iC xs with
  |some k,some ks=>some (k :: ks)
  |_,_=>none
section
variable {κ:Type}[DecidableEq κ]{β:Type}
def n4(ae:List (κ × β))(k:κ):Option β:=(ae.find? λkv=>decide (kv.1=k)).map (·.2)
def kG(ae:List (κ × β))(k:κ)(v:β):List (κ × β) :=
 if (ae.any λkv=>decide (kv.1=k))=true then ae.map (λkv=>if kv.1=k then (kv.1,v) else kv) else ae++[(k,v)]
end
theorem Rep.IE{K:PySem.W.Frag}{H:Hp}:(∀ {d:D} {v:V},Rep K H d v->∀ n,cv n d=true->L2.Rep K H d.py v)/\∀ {ds:List D} {vs:List V},bp K H ds vs->∀ n,(∀ d∈ds,cv n d=true)->L2.bp K H (qS ds) vs :=
 Rep.ind (m1:=λd v=>∀ n,cv n d=true->L2.Rep K H d.py v) (m2:=λds vs=>∀ n,(∀ d∈ds,cv n d=true)->L2.bp K H (qS ds) vs) (λ_ _=>.none) (λb _ _=>.bool b) (λi _ _=>.int i) (λ_ _ _ _=>.str _) (λ_ _ _ _ h _ ih n o=>by
   cases n with
   |zero=>simp[cv] at o
   |succ n=>exact .list h (ih n (by simpa[cv] using o)))
  (λ_ _ _ _ h _ ih n o=>by
   cases n with
   |zero=>simp[cv] at o
   |succ n=>exact .tuple (.inl (.inl h)) (ih n (by simpa[cv] using o)))
  (λ_ _ _ _ _ _ _ n o=>by cases n<;>simp[cv] at o) (λ_ _ _ _ _ _ _ n o=>by cases n<;>simp[cv] at o) (λ_ _=>.nil)
  λ_ _ _ _ _ _ i1 i2 n o=>.cons (i1 n (o _ dv)) (i2 n λd m=>o d (cK _ m))
theorem Rep.l2{K:PySem.W.Frag}{H:Hp}{n:Nat}{d:D}{v:V}(r:Rep K H d v)(o:cv n d=true):L2.Rep K H d.py v:=Rep.IE.1 r n o
theorem Ar{n:Nat}(ih:∀ d,cv n d=true->d.py.canLay0=true/\d.py.depth<=n)(xs:List D)(h:∀ x∈xs,cv n x=true):PyData.canLayAll0 (qS xs)=true/\PyData.depthAll (qS xs)<=n:=by
 induction xs with
 |nil=>exact⟨rfl,dy _⟩
 |cons x xs Vm =>have h1:=ih x (h x dv);have h2:=Vm λy hy=>h y (cK _ hy);simp only[qS,PyData.canLayAll0,PyData.depthAll,h1.1,h2.1,Bool.and_self,true_and];lia
theorem qg(n:Nat):∀ (d:D),cv n d=true->d.py.canLay0=true/\d.py.depth<=n:=by
 have st:∀ (n:Nat) (x:Str),cv n (.str x)=true->(D.str x).py.canLay0=true/\(D.str x).py.depth<=n:=λn x h=>by
  have h:PyData.strOk x=true:=by cases n<;>simpa[cv] using h
  exact⟨by simpa[D.py,PyData.canLay0] using h,dy _⟩
 induction n with
 |zero =>
  intro d h
  cases d with
  |str x=>exact st _ x h
  |non=>exact⟨rfl,dy _⟩
  |bl _=>exact⟨rfl,dy _⟩
  |int _=>exact⟨rfl,dy _⟩
  |_=>simp[cv] at h
 |succ n ih =>
  intro d h
  cases d with
  |str x=>exact st _ x h
  |non=>exact⟨rfl,dy _⟩
  |bl _=>exact⟨rfl,dy _⟩
  |int _=>exact⟨rfl,dy _⟩
  |list xs =>
   have h:∀ x∈xs,cv n x=true:=by simpa[cv] using h
   have:=Ar ih xs h;simp only[D.py,PyData.canLay0,PyData.depth];exact⟨this.1,by lia⟩
  |tup xs =>
   have h:∀ x∈xs,cv n x=true:=by simpa[cv] using h
   have:=Ar ih xs h;simp only[D.py,PyData.canLay0,PyData.depth];exact⟨this.1,by lia⟩
  |dK _=>simp[cv] at h
  |dT _=>simp[cv] at h
mutual
def D.nb:D->Bool
 |.bl _=>false
 |.list xs=>A9 xs
 |.tup xs=>A9 xs
 |.dK _=>false
 |.dT _=>false
 |_=>true
def A9:List D->Bool
 |[]=>true
 |x :: xs=>x.nb && A9 xs
end
mutual
theorem Ak:∀ (x y:D),x.nb=true->y.nb=true->(kg x y=true↔x=y)
 |.non,y,_,hy=>by cases y<;>simp_all [kg,D.py,PyData.eqv,D.nb]
 |.bl _,y,hx,_=>by simp[D.nb] at hx
 |.int i,y,_,hy=>by cases y<;>simp_all [kg,D.py,PyData.eqv,D.nb]
 |.str i,y,_,hy=>by cases y<;>simp_all [kg,D.py,PyData.eqv,D.nb]
 |.dK _,y,hx,_=>by simp[D.nb] at hx
 |.dT _,y,hx,_=>by simp[D.nb] at hx
 |.list xs,y,hx,hy=>by
  cases y with
  |list ys =>have:=rN xs ys (by simpa[D.nb] using hx) (by simpa[D.nb] using hy);simp only[kg,D.py,PyData.eqv,D.list.injEq];exact this
  |_=>simp_all [kg,D.py,PyData.eqv,D.nb]
 |.tup xs,y,hx,hy=>by
  cases y with
  |tup ys =>have:=rN xs ys (by simpa[D.nb] using hx) (by simpa[D.nb] using hy);simp only[kg,D.py,PyData.eqv,D.tup.injEq];exact this
  |_=>simp_all [kg,D.py,PyData.eqv,D.nb]
theorem rN:∀ (xs ys:List D),A9 xs=true->A9 ys=true->(PyData.eqvAll (qS xs) (qS ys)=true↔xs=ys)
 |[],[],_,_=>by simp[qS,PyData.eqvAll]
 |[],_ :: _,_,_=>by simp[qS,PyData.eqvAll]
 |_ :: _,[],_,_=>by simp[qS,PyData.eqvAll]
 |x :: xs,y :: ys,hx,hy=>by simp only[A9,i7] at hx hy;have h1:=Ak x y hx.1 hy.1;have h2:=rN xs ys hx.2 hy.2;simp only[qS,PyData.eqvAll,i7,List.cons.injEq];exact and_congr h1 h2
end
section
variable {K:PySem.W.Frag}{H:Hp}
theorem Rep.key{d:D}{v:V}{k:Key}(r:Rep K H d v)(h:d.key1=some k):v=kV k:=by cases r<;>simp[D.key1] at h<;>subst h<;>rfl
theorem bp.keys{ds:List D}{vs:List V}{ks:List Key}(r:bp K H ds vs)(h:iC ds=some ks):vs=ks.map kV:=by
 induction ds generalizing vs ks with
 |nil=>simp[iC] at h;subst h;exact r.n0
 |cons d ds ih =>
  obtain⟨u,us,rfl,r,rs⟩:=r.c;unfold iC at h
  cases e1:d.key1 with
  |none=>rw[e1] at h;simp at h
  |some k =>
   cases e2:iC ds with
   |none=>rw[e1,e2] at h;simp at h
   |some dn =>rw[e1,e2] at h;simp at h;subst h;rw[fz,r.key e1,ih rs e2]
theorem Rep.sF{ds:List D}{v:V}{ks:List Key}(r:Rep K H (.tup ds) v)(h:iC ds=some ks):∃ b,v=.ref b/\H b=some (.tup (ks.map kV)):=by
 cases r with
 |tup _ e rs=>exact⟨_,rfl,by rw[e,rs.keys h]⟩
end
section
variable {κ:Type}[DecidableEq κ]{K:PySem.W.Frag}{H:Hp}
theorem zip_get{k:κ}{ae:List (κ × D)}{vs:List V}(h:bp K H (ae.map (·.2)) vs):match n4 ae k with
  |some d=>∃ v,pf ((ae.map (·.1)).zip vs) k=some v/\Rep K H d v
  |none=>pf ((ae.map (·.1)).zip vs) k=none:=by
 induction ae generalizing vs with
 |nil=>rfl
 |cons p ae ih =>
  obtain⟨u,us,rfl,r,rs⟩:=bp.c (d:=p.2) h;by_cases e:p.1=k
  ·have e1:n4 (p :: ae) k=some p.2:=by simp[n4,e]
   rw[e1];exact⟨_,by simp only[fz,FR];exact Sg e,r⟩
  ·have e1:n4 (p :: ae) k=n4 ae k:=by simp[n4,e]
   rw[e1];have:=ih rs;simp only[fz,FR,Sh (p:=(p.1,_)) e];exact this
theorem GF{k:κ}{ae:List (κ × D)}{vs:List V}(h:ae.length=vs.length):((ae.map (·.1)).zip vs).any (λkv=>decide (kv.1=k))=ae.any λkv=>decide (kv.1=k):=by
 induction ae generalizing vs with
 |nil=>rfl
 |cons p ae ih =>
  cases vs with
  |nil=>simp at h
  |cons v vs =>simp only[fz,FR,B4];rw[ih (vs:=vs) (by simpa using h)]
end
section
variable {K:PySem.W.Frag}{Hs H:Hp}
theorem IG{p:Addr}{o:HO}(w:Wf Hs H)(hp:H p=none)(ho:∀ vs,o≠.tup vs):eS Hs H Hs (upd H p o) :=
 ⟨(aT.refl H).upd hp,aT.refl _,⟨w.sub.upd hp,λa vs e=>by
  by_cases h:a=p
  ·subst h;rw[iL] at e;exact absurd (Option.some.inj e) (ho vs)
  ·rw[fR h] at e;exact w.iN a vs e⟩,λ_ h=>.inl h⟩
theorem SY{p:Addr}{vs:List V}(w:Wf Hs H)(hp:H p=none):eS Hs H (upd Hs p (.tup vs)) (upd H p (.tup vs)) :=
 ⟨(aT.refl H).upd hp,(aT.refl Hs).upd (w.sub.free hp),⟨λa o e=>by
  by_cases h:a=p
  ·subst h;rw[iL] at e ⊢;exact e
  ·rw[fR h] at e ⊢;exact w.sub a o e,λa vs e=>by
  by_cases h:a=p
  ·subst h;rw[iL] at e ⊢;exact e
  ·rw[fR h] at e ⊢;exact w.iN a vs e⟩,λa h=>by
  by_cases e:a=p
  ·subst e;exact .inr hp
  ·rw[fR e] at h;exact .inl h⟩
theorem cX.nil:cX Hs H []:=⟨kA,λa h=>nomatch h⟩
theorem cX.of{H':Hp}{As:List Addr}(s:aT H H')(f:cX Hs H' As):cX Hs H As:=⟨f.1,λa h=>⟨(f.2 a h).1,s.free (f.2 a h).2⟩⟩
abbrev Fin(K:PySem.W.Frag)(Hs H:Hp)(Qd:Md->D->Prop)(Qv:VK):Prop:=∀ v H' aw m d As,eS Hs H aw H'->RM K aw H' m d v As->cX aw H As->Qd m d->Qv v H'
theorem Fin.after{aw H':Hp}{Qd:Md->D->Prop}{Qv:VK}(f:Fin K Hs H Qd Qv)(g:eS Hs H aw H'):Fin K aw H' Qd Qv:=λv H2 aI m d As g2 r fr q=>f v H2 aI m d As (g.trans g2) r (fr.of g.all) q
theorem Fin.sh{Qd:Md->D->Prop}{Qv:VK}{d:D}{v:V}(f:Fin K Hs H Qd Qv)(w:Wf Hs H)(r:Rep K Hs d v)(q:Qd .sh d):Qv v H:=f v H Hs .sh d [] (eS.refl w) ⟨rfl,r⟩ cX.nil q
theorem Fin.flat{Qd:Md->D->Prop}{Qv:VK}{d:D}{v:V}(f:Fin K Hs H Qd Qv)(w:Wf Hs H)(r:Rep K H d v)(hf:d.flat=true)(q:Qd .sh d):Qv v H:=f.sh w (r.lg w.iN hf) q
theorem Fin.bo{Qd:Md->D->Prop}{Qv:VK}{d:D}{v:V}(f:Fin K Hs H Qd Qv)(w:Wf Hs H)(r:Rep K H d v)(q:Qd .bo d):Qv v H:=f v H Hs .bo d [] (eS.refl w) ⟨rfl,r⟩ cX.nil q
def n5(m:Md)(d:D):Md:=match m with
 |.sh=>.sh
 |_=>bif d.flat then .sh else .bo
theorem Fin.n5{Qd:Md->D->Prop}{Qv:VK}{m:Md}{d:D}{v:V}(f:Fin K Hs H Qd Qv)(w:Wf Hs H)(r:Rep K H d v)(rs:m=.sh->Rep K Hs d v)(q:Qd (n5 m d) d):Qv v H:=by
 cases m with
 |sh=>exact f.sh w (rs rfl) q
 |ow fl =>
  cases hf:d.flat with
  |true=>exact f.flat w r hf (by simpa[Q.n5,hf] using q)
  |false=>exact f.bo w r (by simpa[Q.n5,hf] using q)
 |bo =>
  cases hf:d.flat with
  |true=>exact f.flat w r hf (by simpa[Q.n5,hf] using q)
  |false=>exact f.bo w r (by simpa[Q.n5,hf] using q)
theorem Fin.lst{Qd:Md->D->Prop}{Qv:VK}{ds:List D}{vs:List V}(f:Fin K Hs H Qd Qv)(w:Wf Hs H)(hz:ds.length<=sizeLine)(r:bp K H ds vs)(hf:cS ds=true)(q:Qd (.ow true) (.list ds)):∀ p,H p=none->Qv (.ref p) (upd H p (.lst vs)):=λp hp =>
 f _ _ Hs (.ow true) (.list ds) [p] (IG w hp λ_ z=>nomatch z) ⟨.list (by rw[<- r.length];exact hz) iL ((r.lg w.iN hf).owned hf),by simp⟩ ⟨by simp,λa h=>by
  obtain rfl:a=p:=by simpa using h
  exact⟨w.sub.free hp,hp⟩⟩ q
theorem Fin.S0{Qd:Md->D->Prop}{Qv:VK}{ds:List D}{vs:List V}(f:Fin K Hs H Qd Qv)(w:Wf Hs H)(hz:ds.length<=sizeLine)(r:bp K Hs ds vs)(q:Qd (.ow false) (.list ds)):∀ p,H p=none->Qv (.ref p) (upd H p (.lst vs)):=λp hp =>
 f _ _ Hs (.ow false) (.list ds) [p] (IG w hp λ_ z=>nomatch z) ⟨.list (by rw[<- r.length];exact hz) iL r.Jo,by simp⟩ ⟨by simp,λa h=>by
  obtain rfl:a=p:=by simpa using h
  exact⟨w.sub.free hp,hp⟩⟩ q
theorem Fin.tup{Qd:Md->D->Prop}{Qv:VK}{ds:List D}{vs:List V}(f:Fin K Hs H Qd Qv)(w:Wf Hs H)(hz:ds.length<=sizeLine)(r:bp K H ds vs)(hf:cS ds=true)(q:Qd .sh (.tup ds)):∀ p,H p=none->Qv (.ref p) (upd H p (.tup vs)):=λp hp =>
 f _ _ (upd Hs p (.tup vs)) .sh (.tup ds) [] (SY w hp) ⟨rfl,.tup (by rw[<- r.length];exact hz) iL ((r.lg w.iN hf).same ((aT.refl Hs).upd (w.sub.free hp)))⟩ cX.nil q
end
section
variable {X:Cx}{K:PySem.W.Frag}
theorem PE.imp{e:Expr}{te pE:TE}(h:PE X e te)(i:∀ σ H Q,pE σ H Q->te σ H Q):PE X e pE:=λpins s σ H Q I q=>h pins s σ H Q I (i σ H Q q)
theorem PT.imp{e:Expr}{te pE:TT}(h:PT X e te)(i:∀ σ H Q,pE σ H Q->te σ H Q):PT X e pE:=λpins s σ H Q I q=>h pins s σ H Q I (i σ H Q q)
theorem PW.imp{e:Expr}{te pE:TT}(h:PW X e te)(i:∀ σ H Q,pE σ H Q->te σ H Q):PW X e pE:=λwh pins s σ H Q I q=>h wh pins s σ H Q I (i σ H Q q)
theorem PA.imp{e:List Expr}{te pE:TA}(h:PA X e te)(i:∀ σ H Q,pE σ H Q->te σ H Q):PA X e pE:=λp pins s σ H Q I q=>h p pins s σ H Q I (i σ H Q q)
def OQ:Option (Option Sl)->(Md->D->Prop)->Prop
 |some (some (.sh d)),Q=>Q .sh d
 |some (some (.ow _ d)),Q=>Q .bo d
 |some (some (.lk _ _ d)),Q=>Q .bo d
 |_,_=>False
def av(i:Nat):WE:=λρ Q=>OQ ρ[i]? Q
theorem Lh{i:Nat}{e:Expr}(h:PE X e (AQ i)):QE X K e (av i):=by
 refine PE.imp h λσ H Qv hx=>iq hx λHs ρ ag Q sr h f=>?_;unfold av at h
 cases e:ρ[i]? with
 |none=>rw[e] at h;exact h.elim
 |some o =>
  cases o with
  |none=>rw[e] at h;exact h.elim
  |some sl =>
   obtain⟨v,e1,r⟩:=sr.sr.get e;rw[e] at h
   cases sl with
   |sh d=>exact⟨v,e1,Fin.sh f sr.wf r h⟩
   |xc a=>exact h.elim
   |ow fl d =>obtain⟨As,_,r,_⟩:=r;exact⟨v,e1,Fin.bo f sr.wf (r.rep sr.wf.sub λ_ _=>rfl) h⟩
   |lk a fl d =>obtain⟨As,_,r,_⟩:=r;exact⟨v,e1,Fin.bo f sr.wf (r.rep sr.wf.sub λ_ _=>rfl) h⟩
theorem qv (i:Nat) {x:Str} {pos:Pos} (hN:X.N[i]? = some x:=by rfl) (hv:RT X.env.scope x:=by first|exact Or.inl rfl|exact Or.inr (Or.inl rfl)|exact Or.inr (Or.inr rfl)) (hd:(x == ("__debug__" : Str))=false:=by decide) (oS:(x == ("__classdict__" : Str))=false:=by decide):QE X K (.Name x pos) (av i):=Lh (bk' hN hv hd oS)
def wC(d:D):WE:=λ_ Q=>Q .sh d
theorem yC{e:Expr}{v:V}{d:D}(h:PE X e (tC v))(r:∀ H,Rep K H d v):QE X K e (wC d) :=
 PE.imp h λσ H Qv hx=>iq hx λHs ρ ag Q sr h f=>Fin.sh f sr.wf (r _) h
theorem az{i j pos}:QE X K (.Constant (.int i) j pos) (wC (.int i)):=yC fN' λ_=>.int i
theorem aB{i j pos}(h:i.length<=sizeLine:=by decide):QE X K (.Constant (.str i) j pos) (wC (.str i)):=yC fQ' λ_=>.str h
theorem xa{i j pos}:QE X K (.Constant (.bool i) j pos) (wC (.bl i)):=yC fO' λ_=>.bl i
theorem yZ{j pos}:QE X K (.Constant .none j pos) (wC .non):=yC fP' λ_=>.non
theorem Vn {x z:Str} {pos:Pos} (h:N0 X.mg x z) (hg:Gl X x:=by rfl) (hd:(x == ("__debug__" : Str))=false:=by decide) (hz:z.length<=sizeLine:=by decide):QE X K (.Name x pos) (wC (.str z)):=yC (Ky h hg hd) λ_=>.str hz
theorem OS {x:Str} {i:Int} {pos:Pos} (h:EX X.mg x i) (hg:Gl X x:=by rfl) (hd:(x == ("__debug__" : Str))=false:=by decide):QE X K (.Name x pos) (wC (.int i)):=yC (Lb h hg hd) λ_=>.int i
abbrev W2:=Md->D->Md->D->(Md->D->Prop)->Prop
abbrev W1:=Md->D->(Md->D->Prop)->Prop
def jv(K:PySem.W.Frag)(r:R2)(f:W2):Prop:=∀ Hs H m x v As n y u Bs Qd Qv,Wf Hs H->RM K Hs H m x v As->RM K Hs H n y u Bs->f m x n y Qd->Fin K Hs H Qd Qv->r v u H Qv
def Br1(K:PySem.W.Frag)(r:V->Hp->VK->Prop)(f:W1):Prop:=∀ Hs H m x v As Qd Qv,Wf Hs H->RM K Hs H m x v As->f m x Qd->Fin K Hs H Qd Qv->r v H Qv
def ax(f:W2)(ta tb:WE):WE:=λρ Q=>ta ρ λm x=>tb ρ λn y=>f m x n y Q
def dr(f:W1)(ta:WE):WE:=λρ Q=>ta ρ λm x=>f m x Q
variable {a b:Expr}{ta tb tc:WE}{pos:Pos}
theorem mj{r:R2}{f:W2}(br:jv K r f)(σ:St)(H:Hp)(Qv:VK)(h:sd K (ax f ta tb) σ H Qv):L7 r (sd K ta) (sd K tb) σ H Qv:=by obtain⟨Hs,ρ,ag,Q,sr,h,fin⟩:=h;refine⟨Hs,ρ,ag,_,sr,h,λv H1 ay m x As g1 r1 f1 q1=>⟨ay,ρ,ag,_,sr.grow g1,q1,λu H2 aI n y Bs g2 r2 f2 q2=>?_⟩⟩;exact br aI H2 m x v As n y u Bs Q Qv g2.wf (r1.grow g2) r2 q2 (Fin.after fin (g1.trans g2))
theorem OU{op:Operator}{r:R2}{f:W2}(ho:cx X (binaryOp op) r)(br:jv K r f)(ha:QE X K a ta)(hb:QE X K b tb):QE X K (.BinOp a op b pos) (ax f ta tb):=PE.imp (bB' ho ha hb) (mj br)
theorem ue{op:CmpOp}{r:R2}{f:W2}(ho:cx X (compareOp op) r)(br:jv K r f)(ha:QE X K a ta)(hb:QE X K b tb)(hm:behindInMarks op b=false):QE X K (.Compare a [op] [b] pos) (ax f ta tb):=PE.imp (gZ' ho ha hb hm) (mj br)
def wB(t:WE):WT:=λρ Q=>t ρ λ_ x=>match x with
 |.bl b=>Q b
 |_=>False
theorem Dt{t:WE}(σ:St)(H:Hp)(Qv:Bool->Hp->Prop)(h:A8 K (wB t) σ H Qv):UB (sd K t) σ H Qv:=by
 walk_at"R";walk_at"a";walk_at"B"
 cases r with
 |bl b=>exact⟨b,rfl,fin b H1 ay g1 q1⟩
 |_=>exact q1.elim
theorem aQ{op:CmpOp}{r:R2}{f:W2}(ho:cx X (compareOp op) r)(br:jv K r f)(ha:QE X K a ta)(hb:QE X K b tb)(hm:behindInMarks op b=false):QT X K (.Compare a [op] [b] pos) (wB (ax f ta tb)):=by
 refine PT.imp (ha' ho ha hb hm) λσ H Qv h=>?_;walk_at"R";refine mj br σ H _ ⟨Hs,ρ,ag,_,sr,h,λv H1 ay m x As g1 r1 f1 q1=>?_⟩;walk_at"B"
 cases r with
 |bl b=>exact⟨b,rfl,fin b H1 ay g1 q1⟩
 |_=>exact q1.elim
theorem dH{t:WE}(h:QE X K a t)(he:∀ whole,isTrue a X.env whole=(do let v <- whole;standAt a.pos;holding [v] (truthy v)):=by intro _;rfl):QT X K a (wB t):=PT.imp (fS' h he) Dt
def gh(f g:W2)(ta tb tc:WE):WE:=λρ Q=>ta ρ λm x=>tb ρ λn y=>f m x n y λ_ z=>match z with
 |.bl k=>if k=true then tc ρ λl w=>g n y l w Q else Q .sh (.bl false)
 |_=>False
end
end L2.Q
namespace L2.Q
open PySem PySem.Spec PyProof.Rows
section
variable {X:Cx}{K:PySem.W.Frag}{a b c:Expr}{ta tb tc:WE}{pos:Pos}
theorem qx{r r':R2}{f g:W2}(br:jv K r f)(OV:jv K r' g)(σ:St)(H:Hp)(Qv:VK)(h:sd K (gh f g ta tb tc) σ H Qv):UC r r' (sd K ta) (sd K tb) (sd K tc) σ H Qv:=by
 walk_at"R";refine⟨Hs,ρ,ag,_,sr,h,λv H1 ay m x As g1 r1 f1 q1=>⟨ay,ρ,ag,_,sr.grow g1,q1,λu H2 aI n y Bs g2 r2 f2 q2=>?_⟩⟩;refine br aI H2 m x v As n y u Bs _ _ g2.wf (r1.grow g2) r2 q2 λz H3 iA m3 d3 As3 g3 r3 f3 q3=>?_;have rr:=r3.rep g3.wf
 cases rr with
 |bl k =>
  refine⟨k,rfl,?_⟩;have SJ:Fin K iA H3 Q Qv:=Fin.after fin ((g1.trans g2).trans g3)
  cases k with
  |false=>exact SJ.sh g3.wf (.bl false) q3
  |true =>refine⟨iA,ρ,ag,_,((sr.grow g1).grow g2).grow g3,q3,λw H4 yk l z As4 g4 r4 f4 q4=>?_⟩;exact OV yk H4 n y u Bs l z w As4 Q Qv g4.wf ((r2.grow g3).grow g4) r4 q4 (Fin.after SJ g4)
 |_=>exact q3.elim
theorem Cp{op op':CmpOp}{r r':R2}{f g:W2}(ho:cx X (compareOp op) r)(kz:cx X (compareOp op') r')(br:jv K r f)(OV:jv K r' g)(ha:QE X K a ta)(hb:QE X K b tb)(hc:QE X K c tc)(hm:lastMarks [op,op'] [b,c]=false:=by with_unfolding_all rfl):QE X K (.Compare a [op,op'] [b,c] pos) (gh f g ta tb tc):=PE.imp (hb' ho kz ha hb hc hm) (qx br OV)
theorem jj{op op':CmpOp}{r r':R2}{f g:W2}(ho:cx X (compareOp op) r)(kz:cx X (compareOp op') r')(br:jv K r f)(OV:jv K r' g)(ha:QE X K a ta)(hb:QE X K b tb)(hc:QE X K c tc)(hm:lastMarks [op,op'] [b,c]=false:=by with_unfolding_all rfl):QT X K (.Compare a [op,op'] [b,c] pos) (wB (gh f g ta tb tc)):=by
 refine PT.imp (hf' ho kz ha hb hc hm) λσ H Qv h=>?_;walk_at"R";refine qx br OV σ H _ ⟨Hs,ρ,ag,_,sr,h,λv H1 ay m x As g1 r1 f1 q1=>?_⟩;walk_at"B"
 cases r with
 |bl b=>exact⟨b,rfl,fin b H1 ay g1 q1⟩
 |_=>exact q1.elim
def qV(t u:WT):WT:=λρ Q=>t ρ λc=>if c=true then Q true else u ρ Q
def md(t:WT):WT:=λρ Q=>t ρ λc=>Q (!c)
variable {tA tB:WT}{rest:List Expr}
theorem yj{t u:WT}{f:Bool->TT}{σ:St}{H:Hp}{Qv:Bool->Hp->Prop}{G:Bool->(Bool->Prop)->Env->Prop}(h:A8 K (λρ Q=>t ρ λc=>G c Q ρ) σ H Qv)(i:∀ c H1 ay ρ ag Q,dE K ay ρ σ H1 ag->G c Q ρ->(∀ b H' aw,eS ay H1 aw H'->Q b->Qv b H')->f c σ H1 Qv):A8 K t σ H λc H1=>f c σ H1 Qv:=by
 walk_at"R";exact⟨Hs,ρ,ag,_,sr,h,λc H1 ay g1 q1=>i c H1 ay ρ ag Q (sr.grow g1) q1 λb H' aw g2=>fin b H' aw (g1.trans g2)⟩
theorem gW(ha:QT X K a tA):QW X K (.BoolOp .Or [a] pos) tA:=pw_or1 ha
theorem jH(ha:QT X K a tA)(hb:QW X K (.BoolOp .Or (b :: rest) pos) tB):QW X K (.BoolOp .Or (a :: b :: rest) pos) (qV tA tB):=by
 refine PW.imp (pw_or ha hb) λσ H Qv h=>?_;refine yj (u:=tB) (f:=λc σ H1 Q=>if c=true then Q true H1 else A8 K tB σ H1 Q) h λc H1 ay ρ ag Q sr q fin=>?_
 cases c with
 |true=>exact fin true H1 ay (eS.refl sr.wf) q
 |false=>exact⟨ay,ρ,ag,Q,sr,q,fin⟩
theorem yn(h:QW X K a tA):QT X K a tA:=h _
theorem cT(ha:QT X K a tA):QT X K (.UnaryOp .Not a pos) (md tA):=by refine PT.imp (fV' ha) λσ H Qv h=>?_;exact yj (u:=tA) (f:=λc σ H1 Q=>Q (!c) H1) h λc H1 ay ρ ag Q sr q fin=>fin _ H1 ay (eS.refl sr.wf) q
def rP(ta tb:WE):WE:=λρ Q=>ta ρ λ_ x=>match x with
 |.bl c=>if c=true then tb ρ Q else Q .sh (.bl false)
 |_=>False
def IH(ta tb:WE):WE:=λρ Q=>ta ρ λ_ x=>match x with
 |.bl c=>if c=true then Q .sh (.bl true) else tb ρ Q
 |_=>False
def Cw(ta:WE):WE:=λρ Q=>ta ρ λ_ x=>match x with
 |.bl c=>Q .sh (.bl (!c))
 |_=>False
theorem ur{op}(h:QE X K a ta):QE X K (.BoolOp op [a] pos) ta:=fZ' h
theorem yE(ha:QE X K a ta)(hb:QE X K (.BoolOp .And (b :: rest) pos) tb):QE X K (.BoolOp .And (a :: b :: rest) pos) (rP ta tb):=by
 refine PE.imp (ga' ha hb) λσ H Qv hx=>iq hx λHs ρ ag Q sr h fin=>?_;walk_at"a";walk_at"B"
 cases r with
 |bl c =>
  refine⟨c,rfl,?_⟩
  cases c with
  |true=>exact⟨ay,ρ,ag,Q,sr.grow g1,q1,Fin.after fin g1⟩
  |false=>exact Fin.sh (Fin.after fin g1) g1.wf (.bl false) q1
 |_=>exact q1.elim
theorem Vo(ha:QE X K a ta)(hb:QE X K (.BoolOp .Or (b :: rest) pos) tb):QE X K (.BoolOp .Or (a :: b :: rest) pos) (IH ta tb):=by
 refine PE.imp (gb' ha hb) λσ H Qv hx=>iq hx λHs ρ ag Q sr h fin=>?_;walk_at"a";walk_at"B"
 cases r with
 |bl c =>
  refine⟨c,rfl,?_⟩
  cases c with
  |true=>exact Fin.sh (Fin.after fin g1) g1.wf (.bl true) q1
  |false=>exact⟨ay,ρ,ag,Q,sr.grow g1,q1,Fin.after fin g1⟩
 |_=>exact q1.elim
theorem Ln(ha:QE X K a ta):QE X K (.UnaryOp .Not a pos) (Cw ta):=by
 refine PE.imp (gc' ha) λσ H Qv hx=>iq hx λHs ρ ag Q sr h fin=>?_;walk_at"a";walk_at"B"
 cases r with
 |bl c=>exact⟨c,rfl,Fin.sh (Fin.after fin g1) g1.wf (.bl _) q1⟩
 |_=>exact q1.elim
def S4:D->Option Bool
 |.non=>some false
 |.bl b=>some b
 |.int i=>some (i != 0)
 |.str x=>some ((x.length:Int) != 0)
 |.list xs=>some !xs.isEmpty
 |.tup xs=>some !xs.isEmpty
 |.dK ae=>none
 |.dT ae=>none
def S5(t:WE):WT:=λρ Q=>t ρ λ_ x=>∃ b,S4 x=some b/\Q b
end
def fw:W2:=λm x n y Q=>match x,y with
 |.int i,.int j=>Q .sh (.int (i+j))
 |.str i,.str j=>i.length+j.length<=sizeLine/\Q .sh (.str (i++j))
 |.list xs,.list ys=>xs.length+ys.length<=sizeLine/\((cS xs=true/\cS ys=true/\Q (.ow true) (.list (xs++ys)))\/(m=.sh/\n=.sh/\Q (.ow false) (.list (xs++ys))))
 |.tup xs,.tup ys=>xs≠[]/\xs.length+ys.length<=sizeLine/\cS xs=true/\cS ys=true/\Q .sh (.tup (xs++ys))
 |_,_=>False
def E6(P:Int->Int->(Md->D->Prop)->Prop):W2:=λ_ x _ y Q=>match x,y with
 |.int i,.int j=>P i j Q
 |_,_=>False
def Vp(P:Int->Int->(Md->D->Prop)->Prop)(S:Str->Str->(Md->D->Prop)->Prop):W2:=λ_ x _ y Q=>match x,y with
 |.int i,.int j=>P i j Q
 |.str i,.str j=>S i j Q
 |_,_=>False
def S6:W2:=E6 λi j Q=>Q .sh (.int (i-j))
def S7:W2:=E6 λi j Q=>G0 i j/\Q .sh (.int (i*j))
def jI:W2:=E6 λi j Q=>(0<j/\j<1073741824)/\Q .sh (.int (i / j))
def kr:W2:=E6 λi j Q=>0<j/\Q .sh (.int (i % j))
def zS:W2:=Vp (λi j Q=>Q .sh (.bl (decide (i<j)))) λi j Q=>Q .sh (.bl (ov i j))
def oB:W2:=Vp (λi j Q=>Q .sh (.bl (decide (i<=j)))) λi j Q=>Q .sh (.bl (!ov j i))
def DM:W2:=E6 λi j Q=>Q .sh (.bl (decide (j<i)))
def S8:W2:=E6 λi j Q=>Q .sh (.bl (decide (j<=i)))
def ng:W2:=λ_ x _ y Q=>match x,y with
 |.int i,.int j=>Q .sh (.bl (decide (i=j)))
 |.str i,.str j=>Q .sh (.bl (decide (i=j)))
 |.bl i,.bl j=>Q .sh (.bl (decide (i=j)))
 |_,_=>cv 12 x=true/\cv 12 y=true/\Q .sh (.bl (kg x y))
def nh:W2:=λ_ x _ y Q=>match x,y with
 |.int i,.int j=>Q .sh (.bl (!decide (i=j)))
 |.str i,.str j=>Q .sh (.bl (!decide (i=j)))
 |.bl i,.bl j=>Q .sh (.bl (!decide (i=j)))
 |_,_=>cv 12 x=true/\cv 12 y=true/\Q .sh (.bl (!kg x y))
def D.S9:D->Bool
 |.non=>true
 |_=>false
def Vq:W2:=λ_ x _ y Q=>match y with
 |.non=>Q .sh (.bl x.S9)
 |_=>False
def iB:D->Bool
 |.non=>true
 |.bl _=>true
 |.int _=>true
 |.str _=>true
 |_=>false
def inD(x:D)(ys:List D):Bool:=ys.any λy=>kg y x
def z0(neg:Bool):W2:=λ_ x _ y Q=>match y with
 |.str j=>match x with
  |.str i=>Q .sh (.bl (if neg then !ua i j else ua i j))
  |_=>False
 |.list ys=>iB x=true/\ys.all iB=true/\Q .sh (.bl (if neg then !inD x ys else inD x ys))
 |.tup ys=>iB x=true/\ys.all iB=true/\Q .sh (.bl (if neg then !inD x ys else inD x ys))
 |.dK ae=>∃ k,x.key1=some k/\Q .sh (.bl (if neg then !(n4 ae k).isSome else (n4 ae k).isSome))
 |.dT ae=>match x with
  |.tup xs=>∃ ks,iC xs=some ks/\Q .sh (.bl (if neg then !(n4 ae ks).isSome else (n4 ae ks).isSome))
  |_=>False
 |_=>False
section
variable {K:PySem.W.Frag}
theorem FW{Hs H:Hp}{Qd:Md->D->Prop}{Qv:VK}(f:Fin K Hs H Qd Qv)(w:Wf Hs H){x:Str}(h:x.length<=sizeLine)(q:Qd .sh (.str x)):Qv (.str x) H:=f.sh w (.str h) q
theorem au(i j:Str):(i++j).length=i.length+j.length:=by show((i++j).cps.size)=_;show(i.cps++j.cps).size=_;simp[Str.length]
theorem JV:jv K (λx y H Q=>Ei K x y H Q\/UL K x y H Q) fw:=by
 walk_at"b";walk_at"ad";have r2:=ry.rep w;unfold fw at h
 cases r1 with
 |int i=>cases r2 with
  |int j=>exact .inl (f.sh w (.int _) h)
  |_=>exact h.elim
 |str hi=>cases r2 with
  |str hj=>exact .inl ⟨h.1,FW f w (by rw[au];exact h.1) h.2⟩
  |_=>exact h.elim
 |list z1 s1 q1=>cases r2 with
  |list z2 s2 q2 =>
   have l1:=q1.length;have l2:=q2.length;have hz:=h.1;rcases h.2 with⟨f1,f2,q⟩|⟨rfl,rfl,q⟩
   ·refine .inl ⟨_,_,s1,s2,by lia,?_⟩;exact f.lst w (by rw[kK];exact hz) (q1.append q2) (by rw[lE,f1,f2];rfl) q
   ·obtain⟨_,rx⟩:=rx;obtain⟨_,ry⟩:=ry
    cases rx with
    |list z1' s1' II=>cases ry with
     |list z2' s2' q2' =>have l1:=II.length;have l2:=q2'.length;refine .inl ⟨_,_,aT.seq w.sub s1',aT.seq w.sub s2',by lia,?_⟩;exact f.S0 w (by rw[kK];exact hz) (II.append q2') q
  |_=>exact h.elim
 |tup t1 s1 q1=>cases r2 with
  |tup t2 s2 q2 =>
   have l1:=q1.length;have l2:=q2.length;obtain⟨kf,hz,f1,f2,q⟩:=h;refine .inr ⟨_,_,_,_,rfl,rfl,.inl (.inl s1),.inl (.inl s2),?_,by lia,?_⟩
   ·intro e;subst e;exact kf (KL.mp l1)
   ·refine⟨λe=>?_,λ_=>f.tup w (by rw[kK];exact hz) (q1.append q2) (by rw[lE,f1,f2];rfl) q⟩;subst e;cases q2;rw[og] at q;exact f.flat w (.tup t1 s1 q1) (by simpa[D.flat] using f1) q
  |_=>exact h.elim
 |_=>exact h.elim
theorem EY{H:Hp}{x y:D}{v u:V}{m n:Md}{P:Int->Int->(Md->D->Prop)->Prop}{S:Str->Str->(Md->D->Prop)->Prop}{Q:Md->D->Prop}{G:Prop}(r1:Rep K H x v)(r2:Rep K H y u)(h:Vp P S m x n y Q)(k:∀ i j,v=.int i->u=.int j->P i j Q->G)(ks:∀ i j,v=.str i->u=.str j->S i j Q->G):G:=by
 cases r1 with
 |int i=>cases r2 with
  |int j=>exact k i j rfl rfl h
  |_=>exact h.elim
 |str hi=>cases r2 with
  |str hj=>exact ks _ _ rfl rfl h
  |_=>exact h.elim
 |_=>exact h.elim
theorem jK{H:Hp}{x y:D}{v u:V}{m n:Md}{P:Int->Int->(Md->D->Prop)->Prop}{Q:Md->D->Prop}{G:Prop}(r1:Rep K H x v)(r2:Rep K H y u)(h:E6 P m x n y Q)(k:∀ i j,v=.int i->u=.int j->P i j Q->G):G:=by
 cases r1 with
 |int i=>cases r2 with
  |int j=>exact k i j rfl rfl h
  |_=>exact h.elim
 |_=>exact h.elim
theorem I_:jv K Gz S6:=by
 walk_at"b";exact jK (rx.rep w) (ry.rep w) h λi j e1 e2 q=>by subst e1 e2;exact f.sh w (.int _) q
theorem Jt:jv K Hz S7:=by
 walk_at"b";exact jK (rx.rep w) (ry.rep w) h λi j e1 e2 q=>by subst e1 e2;exact⟨q.1,f.sh w (.int _) q.2⟩
theorem Jc:jv K GQ jI:=by
 walk_at"b";exact jK (rx.rep w) (ry.rep w) h λi j e1 e2 q=>by subst e1 e2;exact⟨q.1,f.sh w (.int _) q.2⟩
theorem Jq:jv K Hw kr:=by
 walk_at"b";exact jK (rx.rep w) (ry.rep w) h λi j e1 e2 q=>by subst e1 e2;exact⟨q.1,f.sh w (.int _) q.2⟩
theorem yU:jv K U0 DM:=by
 walk_at"b";exact jK (rx.rep w) (ry.rep w) h λi j e1 e2 q=>by subst e1 e2;exact f.sh w (.bl _) q
theorem JR:jv K U4 S8:=by
 walk_at"b";exact jK (rx.rep w) (ry.rep w) h λi j e1 e2 q=>by subst e1 e2;exact f.sh w (.bl _) q
theorem wD:jv K UY zS:=by
 intro Hs H m x v As n y u Bs Qd Qv w rx ry h f;exact EY (rx.rep w) (ry.rep w) h (λi j e1 e2 q=>by
  subst e1 e2;exact f.sh w (.bl _) q) λi j e1 e2 q=>by
  subst e1 e2;exact f.sh w (.bl _) q
theorem jR:jv K UZ oB:=by
 intro Hs H m x v As n y u Bs Qd Qv w rx ry h f;exact EY (rx.rep w) (ry.rep w) h (λi j e1 e2 q=>by
  subst e1 e2;exact f.sh w (.bl _) q) λi j e1 e2 q=>by
  subst e1 e2;exact f.sh w (.bl _) q
theorem eq_data{Hs H:Hp}{x y:D}{v u:V}{Qd:Md->D->Prop}{Qv:VK}(w:Wf Hs H)(rx:Rep K H x v)(ry:Rep K H y u)(f:Fin K Hs H Qd Qv)(h:cv 12 x=true/\cv 12 y=true/\Qd .sh (.bl (kg x y))):U6 K v u H Qv:=by obtain⟨h1,h2,q⟩:=h;have l1:=qg 12 x h1;have l2:=qg 12 y h2;exact⟨x.py,y.py,rx.l2 h1,ry.l2 h2,l1.1,l2.1,by lia,f.sh w (.bl _) q⟩
theorem ne_data{Hs H:Hp}{x y:D}{v u:V}{Qd:Md->D->Prop}{Qv:VK}(w:Wf Hs H)(rx:Rep K H x v)(ry:Rep K H y u)(f:Fin K Hs H Qd Qv)(h:cv 12 x=true/\cv 12 y=true/\Qd .sh (.bl (!kg x y))):U7 K v u H Qv:=by obtain⟨h1,h2,q⟩:=h;have l1:=qg 12 x h1;have l2:=qg 12 y h2;exact⟨x.py,y.py,rx.l2 h1,ry.l2 h2,l1.1,l2.1,by lia,f.sh w (.bl _) q⟩
theorem jV:jv K (Sv K) ng:=by
 walk_at"b";walk_at"ad";have r2:=ry.rep w;have d:=λh=>eq_data (Qd:=Qd) (Qv:=Qv) w r1 r2 f h
 cases r1 with
 |int i=>cases r2 with
  |int j=>exact f.sh w (.bl _) h
  |_=>exact d h
 |str i=>cases r2 with
  |str j=>exact f.sh w (.bl _) h
  |_=>exact d h
 |bl i=>cases r2 with
  |bl j=>exact f.sh w (.bl _) h
  |_=>exact d h
 |_=>exact d h
theorem lV:jv K (Sw K) nh:=by
 walk_at"b";walk_at"ad";have r2:=ry.rep w;have d:=λh=>ne_data (Qd:=Qd) (Qv:=Qv) w r1 r2 f h
 cases r1 with
 |int i=>cases r2 with
  |int j=>exact f.sh w (.bl _) h
  |_=>exact d h
 |str i=>cases r2 with
  |str j=>exact f.sh w (.bl _) h
  |_=>exact d h
 |bl i=>cases r2 with
  |bl j=>exact f.sh w (.bl _) h
  |_=>exact d h
 |_=>exact d h
theorem Gs{H:Hp}{x:D}{v:V}(r:Rep K H x v):decide (v=V.non)=x.S9:=by cases r<;>first|rfl|exact decide_eq_false (λz=>nomatch z)
theorem JC:jv K (λx y H Q=>y=.non/\Q (.bl (decide (x=.non))) H) Vq:=by
 walk_at"b";walk_at"ad";have r2:=ry.rep w;have e:=Gs r1
 cases r2 with
 |non=>exact⟨rfl,by rw[e];exact f.sh w (.bl _) h⟩
 |_=>exact h.elim
theorem nW{H:Hp}{x:D}{v:V}(r:Rep K H x v)(h:iB x=true):zt v=true:=by cases r<;>first|rfl|(simp[iB] at h)
theorem FZ{H:Hp}{x y:D}{v u:V}(r:Rep K H x v)(s:Rep K H y u)(h:iB x=true)(g:iB y=true):AY v u=kg x y:=by cases r<;>simp[iB] at h<;>cases s<;>simp[iB] at g<;>rfl
theorem Ir{H:Hp}{x:D}{v:V}(r:Rep K H x v)(h:iB x=true){ys:List D}{us:List V}(rs:bp K H ys us)(g:ys.all iB=true):us.all zt=true/\Se v us=inD x ys:=by
 induction ys generalizing us with
 |nil=>rw[rs.n0];exact⟨rfl,rfl⟩
 |cons y ys ih =>
  obtain⟨u,us,rfl,s,ss⟩:=rs.c;simp only[B3,i7] at g;obtain⟨e1,e2⟩:=ih ss g.2;refine⟨by simp only[B3,nW s g.1,e1,Bool.and_self],?_⟩;unfold Se inD at *
  rw[B4,B4,e2,FZ s r g.1 h]
theorem uR{κ:Type}[DecidableEq κ]{H:Hp}{k:κ}{ae:List (κ × D)}{vs:List V}(r:bp K H (ae.map (·.2)) vs):(pf ((ae.map (·.1)).zip vs) k).isSome=(n4 ae k).isSome:=by
 have:=zip_get (k:=k) r;split at this
 ·rename_i e;obtain⟨v,e1,_⟩:=this;rw[e1,e];rfl
 ·rename_i e;rw[this,e];rfl
theorem Dv{neg:Bool}:jv K (EZ K neg) (z0 neg):=by
 walk_at"b";walk_at"ad";have r2:=ry.rep w
 cases r2 with
 |str j=>cases r1 with
  |str i=>exact f.sh w (.bl _) h
  |_=>exact h.elim
 |list z s q =>
  obtain⟨h1,h2,h3⟩:=h;obtain⟨e1,e2⟩:=Ir r1 h1 q h2;have h4:=nW r1 h1;have g:MD K neg v (.ref _) H Qv:=⟨_,_,rfl,.inl s,h4,e1,by rw[e2];exact f.sh w (.bl _) h3⟩
  cases r1<;>exact .inr g
 |tup _ s q =>
  obtain⟨h1,h2,h3⟩:=h;obtain⟨e1,e2⟩:=Ir r1 h1 q h2;have h4:=nW r1 h1;have g:MD K neg v (.ref _) H Qv:=⟨_,_,rfl,.inr (.inl (.inl s)),h4,e1,by rw[e2];exact f.sh w (.bl _) h3⟩
  cases r1<;>exact .inr g
 |dK kk e q =>obtain⟨k,hk,h3⟩:=h;have ev:=r1.key hk;subst ev;have eg:=uR (k:=k) q;cases k<;>exact .inl ⟨_,oq.k' e,by rw[eg];exact f.sh w (.bl _) h3⟩
 |dT kk e q =>
  cases r1 with
  |tup t1 e1 q1 =>obtain⟨ks,hk,h3⟩:=h;obtain⟨b,eb,e2⟩:=Rep.sF (.tup t1 e1 q1) hk;cases eb;have eg:=uR (k:=ks) q;exact .inl ⟨_,oq.t' e e2,by rw[eg];exact f.sh w (.bl _) h3⟩
  |_=>exact h.elim
 |_=>exact h.elim
end
section
variable {X:Cx}{K:PySem.W.Frag}{a b:Expr}{ta tb:WE}{pos:Pos}
theorem Kz(hK:X.K=K:=by rfl):cx X (binaryOp .Add) (λx y H Q=>Ei K x y H Q\/UL K x y H Q):=by subst hK;exact zU.or il'
theorem cL(ha:QE X K a ta)(hb:QE X K b tb)(hK:X.K=K:=by rfl):QE X K (.BinOp a .Add b pos) (ax fw ta tb):=OU (Kz hK) JV ha hb
theorem K4(ha:QE X K a ta)(hb:QE X K b tb):QE X K (.BinOp a .Sub b pos) (ax S6 ta tb):=OU Gu I_ ha hb
theorem L_(ha:QE X K a ta)(hb:QE X K b tb):QE X K (.BinOp a .Mult b pos) (ax S7 ta tb):=OU Gx Jt ha hb
theorem dX(ha:QE X K a ta)(hb:QE X K b tb):QE X K (.BinOp a .FloorDiv b pos) (ax jI ta tb):=OU HN Jc ha hb
theorem eU(ha:QE X K a ta)(hb:QE X K b tb):QE X K (.BinOp a .Mod b pos) (ax kr ta tb):=OU Fp Jq ha hb
end
def b9:WA:=λ_ Q=>Q []
def ao(te:WE)(t:WA):WA:=λρ Q=>te ρ λm x=>t ρ λps=>Q ((m,x) :: ps)
def uj:Md × D->Bool
 | (.sh,_)=>true
 | (_,d)=>d.flat
def E7:Md × D->Bool
 | (.bo,d)=>d.flat
 |_=>true
def DS:Md × D->Bool
 | (.ow true,_)=>true
 | (_,d)=>d.flat
def yt(ps:List (Md × D)):Md:=bif ps.all uj then .sh else bif ps.all E7 then .ow (ps.all DS) else .bo
def G9(ps:List (Md × D)):Md:=bif ps.all E7 then .ow (ps.all DS) else .bo
def se(t:WA):WE:=λρ Q=>t ρ λps=>ps.length<=sizeLine/\Q (yt ps) (.tup (ps.map (·.2)))
def kH(t:WA):WE:=λρ Q=>t ρ λps=>ps.length<=sizeLine/\Q (G9 ps) (.list (ps.map (·.2)))
section
variable {X:Cx}{K:PySem.W.Frag}{e:Expr}{es:List Expr}{te:WE}{t:WA}{pos:Pos}{Hs H:Hp}
theorem aD:QA X K [] b9:=PA.imp rU λσ H Qv hx=>iq hx λHs ρ ag Q sr h f=>f [] H Hs [] [] (eS.refl sr.wf) .nil cX.nil h
theorem cX.app{ay aI H1:Hp}{As Bs:List Addr}(f1:cX ay H As)(o:∀ a∈As,H1 a≠none)(f2:cX aI H1 Bs)(s:aT H H1)(k:∀ a,ay a=none->H1 a≠none->aI a=none):cX aI H (As++Bs) :=
 ⟨hJ.mpr ⟨f1.1,f2.1,λa ha b hb e=>by subst e;exact o a ha (f2.2 a hb).2⟩,λa h=>by
  rcases eI.mp h with h|h
  ·exact⟨k a (f1.2 a h).1 (o a h),(f1.2 a h).2⟩
  ·exact⟨(f2.2 a h).1,s.free (f2.2 a h).2⟩⟩
theorem aa(ha:QE X K e te)(hr:QA X K es t)(hs:starEach (e :: es) X.env=(false,eval e X.env) :: starEach es X.env:=by rfl):QA X K (e :: es) (ao te t):=by refine PA.imp (mG ha hr hs) λσ H Qv hx=>iq hx λHs ρ ag Q sr h f=>?_;refine⟨Hs,ρ,ag,_,sr,h,λv H1 ay m x As g1 r1 f1 q1=>⟨ay,ρ,ag,_,sr.grow g1,q1,λvs H2 aI ps Bs g2 r2 f2 q2=>?_⟩⟩;exact f (v :: vs) H2 aI _ _ (g1.trans g2) (.cons (r1.grow g2) r2) (f1.app (λa h=>(r1.own a h).ne) f2 g1.all λa h1 h2=>g2.nK h1 h2) q2
theorem w_.sh(w:Wf Hs H){ps:List (Md × D)}{vs:List V}{As:List Addr}(r:w_ K Hs H ps vs As):ps.all uj=true->bp K Hs (ps.map (·.2)) vs:=by
 induction r with
 |nil=>exact λ_=>.nil
 |@cons m d v ps vs As Bs r rs ih =>
  intro h;simp only[B3,i7] at h;refine .cons ?_ (ih h.2)
  cases m with
  |sh=>exact r.2
  |ow fl=>exact r.flat w h.1
  |bo=>exact r.flat w h.1
theorem w_.ow{fl:Bool}(w:Wf Hs H){ps:List (Md × D)}{vs:List V}{As:List Addr}(r:w_ K Hs H ps vs As):ps.all E7=true->(fl=true->ps.all DS=true)->∃ Bs,Bs.Sublist As/\(ps.all uj=false->Bs≠[])/\aH K Hs H fl (ps.map (·.2)) vs Bs:=by
 induction r with
 |nil=>exact λ_ _=>⟨[],B1 _,(λz=>Bool.noConfusion z),.nil⟩
 |@cons m d v ps vs A1 Cs r rs ih =>
  intro h hf;simp only[B3,i7] at h hf;obtain⟨Bs,sb,ne,q⟩:=ih h.2 λz=>(hf z).2;have sk:([]++Bs).Sublist (A1++Cs):=by simpa using sb.trans (pV _ _)
  have AJ:d.flat=true->uj (m,d)=true->∃ Bs,Bs.Sublist (A1++Cs)/\(((m,d) :: ps).all uj=false->Bs≠[])/\aH K Hs H fl (((m,d) :: ps).map (·.2)) (v :: vs) Bs:=λhd ho =>
   ⟨[]++Bs,sk,λz=>ne (by rw[B3,ho] at z;simpa using z),.cons (.sh (λ_=>hd) (r.flat w hd)) q⟩
  cases m with
  |sh=>exact⟨[]++Bs,sk,λz=>ne (by simpa[uj] using z),.cons (.sh (λz=>(hf z).1) r.2) q⟩
  |bo=>exact AJ h.1 h.1
  |ow b =>
   cases hd:d.flat with
   |true=>exact AJ hd hd
   |false =>
    refine⟨A1++Bs,sb.append_left _,λ_ z=>r.2 (KP.mp z).1,.cons ?_ q⟩
    cases fl with
    |false=>exact bS.SX r.1
    |true =>
     have:=(hf rfl).1
     cases b with
     |true=>exact r.1
     |false=>simp[DS,hd] at this
theorem sJ:∀ {ps:List (Md × D)},cS (ps.map (·.2))=true->ps.all uj=true
 |[],_=>rfl
 | (m,d) :: ps,h=>by simp only[fz,cS,i7] at h;simp only[B3,i7];exact⟨by cases m<;>simp[uj,h.1],sJ h.2⟩
theorem lQ{x1}(h:QA X K es t):QE X K (.Tuple es x1 pos) (se t):=by
 refine PE.imp (UI h) λσ H Qv hx=>iq hx λHs ρ ag Q sr h f=>?_;walk_at"O";obtain⟨hz,q⟩:=q1;have rl:=(r1.reps g1.wf)
 have hl:=rl.length;rw[cE] at hl;refine⟨by lia,λp hp=>?_⟩;have g2:=SY (vs:=vs) g1.wf hp;have fin:=Fin.after f g1;unfold yt at q
 cases h1:ps.all uj with
 |true =>rw[h1] at q;exact fin _ _ _ .sh _ [] g2 ⟨rfl,.tup (by lia) iL ((r1.sh g1.wf h1).same g2.sh)⟩ cX.nil q
 |false =>
  rw[h1] at q
  cases h2:ps.all E7 with
  |false =>rw[h2] at q;exact fin _ _ _ .bo _ [] g2 ⟨rfl,.tup (by lia) iL (rl.same g2.all)⟩ cX.nil q
  |true =>
   rw[h2] at q;obtain⟨Bs,sb,nz,ro⟩:=r1.ow (fl:=ps.all DS) g1.wf h2 λz=>z;have kf:cS (ps.map (·.2))=false:=by
    cases hf:cS (ps.map (·.2)) with
    |false=>rfl
    |true=>rw[sJ hf] at h1;cases h1
   have own:=ro.own;refine f _ _ _ (.ow _) _ Bs (g1.trans g2) ⟨.tup (by lia) iL kf (ro.grow g2.sh g2.all),nz h1⟩ ⟨sb.nodup f1.1,λa ha=>⟨?_,(f1.2 a (sb.subset ha)).2⟩⟩ q;exact g2.nK (f1.2 a (sb.subset ha)).1 (own a ha).ne
theorem fL(h:QA X K es t):QE X K (.List es pos) (kH t):=by
 refine PE.imp (hH' h) λσ H Qv hx=>iq hx λHs ρ ag Q sr h f=>?_;walk_at"O";obtain⟨hz,q⟩:=q1;have rl:=(r1.reps g1.wf)
 have hl:=rl.length;rw[cE] at hl;refine⟨by lia,λp hp=>?_⟩;have g2:=IG (o:=.lst vs) g1.wf hp λ_ z=>nomatch z;have fin:=Fin.after f g1;unfold G9 at q
 cases h2:ps.all E7 with
 |false =>rw[h2] at q;exact fin _ _ _ .bo _ [] g2 ⟨rfl,.list (by lia) (.inl (.inl iL)) (rl.same g2.all)⟩ cX.nil q
 |true =>
  rw[h2] at q;obtain⟨Bs,sb,nz,ro⟩:=r1.ow (fl:=ps.all DS) g1.wf h2 λz=>z;have own:=ro.own;refine f _ _ _ (.ow _) _ (p :: Bs) (g1.trans g2) ⟨.list (by lia) iL (ro.grow g2.sh g2.all),by simp⟩ ⟨ny.mpr ⟨λm=>(own p m).ne hp,sb.nodup f1.1⟩,λa ha=>?_⟩ q;rcases dc.mp ha with rfl|ha
  ·exact⟨g1.wf.sub.free hp,g1.all.free hp⟩
  ·exact⟨g2.nK (f1.2 a (sb.subset ha)).1 (own a ha).ne,(f1.2 a (sb.subset ha)).2⟩
end
theorem bp.fv{K:PySem.W.Frag}{H:Hp}{ds:List D}{vs:List V}{i:Int}{d:D}(r:bp K H ds vs)(h:fv ds i=some d):∃ v,L2.fv vs i=some v/\Rep K H d v:=by
 unfold L2.fv at *
 rw[<- r.length]
 cases e:x4 ds.length i with
 |none=>rw[e] at h;cases h
 |some j =>rw[e] at h;exact r.get h
def eB:W2:=λm x _ y Q=>match x with
 |.list xs=>match y with
  |.int i=>∃ d,fv xs i=some d/\bP d (f:=λd=>Q (n5 m d) d) ⟨⟩
  |_=>False
 |.tup xs=>match y with
  |.int i=>∃ d,fv xs i=some d/\bP d (f:=λd=>Q (n5 m d) d) ⟨⟩
  |_=>False
 |.str z=>match y with
  |.int i=>∃ c,fv z.cps.toList i=some c/\Q .sh (.str ⟨#[c]⟩)
  |_=>False
 |.dK ae=>∃ k d,y.key1=some k/\n4 ae k=some d/\bP d (f:=λd=>Q (n5 m d) d) ⟨⟩
 |.dT ae=>match y with
  |.tup ys=>∃ ks d,iC ys=some ks/\n4 ae ks=some d/\bP d (f:=λd=>Q (n5 m d) d) ⟨⟩
  |_=>False
 |_=>False
def Vr(K:PySem.W.Frag):R2:=λx y H Q=>Sr K x y H Q\/∃ a v,x=.ref a/\oq H a y (some v)/\Q v H
theorem zy(c:Nat):(⟨#[c]⟩:Str).length<=sizeLine:=by show 1<=sizeLine;decide
theorem RM.here{K:PySem.W.Frag}{Hs H:Hp}{m:Md}{d:D}{v:V}{As:List Addr}(w:Wf Hs H)(r:RM K Hs H m d v As):(m=.sh/\Rep K Hs d v)\/(m≠.sh/\Rep K H d v):=by
 cases m with
 |sh=>exact .inl ⟨rfl,r.2⟩
 |ow fl=>exact .inr ⟨(λz=>nomatch z),r.rep w⟩
 |bo=>exact .inr ⟨(λz=>nomatch z),r.2⟩
section
variable {X:Cx}{K:PySem.W.Frag}
theorem Lw:jv K (Vr K) eB:=by
 walk_at"b";have r2:=ry.rep w;have core:∀ G:Hp,aT G H->(∀ d v,Rep K G d v->Rep K H d v/\(m=.sh->Rep K Hs d v))->Rep K G x v->Vr K v u H Qv:=by
  intro G sg up r1
  cases r1 with
  |list z s q =>
   cases r2 with
   |int i =>obtain⟨d,e,h⟩:=h;obtain⟨v',e',r'⟩:=q.fv e;obtain⟨u1,u2⟩:=up _ _ r';exact .inl (.inl ⟨_,v',aT.seq sg s,e',f.n5 w u1 u2 h⟩)
   |_=>exact h.elim
  |tup _ s q =>
   cases r2 with
   |int i =>obtain⟨d,e,h⟩:=h;obtain⟨v',e',r'⟩:=q.fv e;obtain⟨u1,u2⟩:=up _ _ r';exact .inl (.inr ⟨_,v',.inl (.inl (sg _ _ s)),e',f.n5 w u1 u2 h⟩)
   |_=>exact h.elim
  |str hz =>
   cases r2 with
   |int i =>obtain⟨c,e,h⟩:=h;exact .inl ⟨hz,c,e,f.sh w (.str (zy c)) h⟩
   |_=>exact h.elim
  |dK kk s q =>obtain⟨k,d,hk,hg,h⟩:=h;have ev:=r2.key hk;subst ev;have z:=zip_get (k:=k) q;rw[hg] at z;obtain⟨v',e',r'⟩:=z;obtain⟨u1,u2⟩:=up _ _ r';exact .inr ⟨_,v',rfl,by rw[<- e'];exact oq.k' (aT.rd sg s),f.n5 w u1 u2 h⟩
  |dT kk s q =>
   cases r2 with
   |tup t2 e2 q2 =>obtain⟨ks,d,hk,hg,h⟩:=h;obtain⟨b,eb,e3⟩:=Rep.sF (.tup t2 e2 q2) hk;cases eb;have z:=zip_get (k:=ks) q;rw[hg] at z;obtain⟨v',e',r'⟩:=z;obtain⟨u1,u2⟩:=up _ _ r';exact .inr ⟨_,v',rfl,by rw[<- e'];exact oq.t' (aT.rd sg s) e3,f.n5 w u1 u2 h⟩
   |_=>exact h.elim
  |_=>exact h.elim
 rcases rx.here w with⟨hm,r⟩|⟨hm,r⟩
 ·exact core Hs w.sub (λd v q=>And.intro (q.same w.sub) λ_=>q) r
 ·exact core H (aT.refl H) (λd v q=>And.intro q λz=>absurd z hm) r
theorem kh'(hu:X.A.units+64<cLine)(hK:X.K=K:=by rfl):tJ X (Vr K):=by subst hK;refine tJ.or Fd ?_;intro value slice pins s σ H x y v u Q I rx ry h hs;obtain⟨a,w,rfl,g,q⟩:=h;cases rx;exact tail_any (iR' I g) F.slot_dict_getitem.lookup (iK' (by lia) I g ry λw' s3 I3 pd=>⟨w,H,I3,pd,q⟩) hs
variable {a b:Expr}{ta tb:WE}{pos:Pos}
theorem fo(hu:X.A.units+64<cLine)(ha:QE X K a ta)(hb:QE X K b tb)(hs:UO b:=by exact λ_ _=>rfl)(hK:X.K=K:=by rfl):QE X K (.Subscript a b pos) (ax eB ta tb):=PE.imp (bY' (kh' hu hK) ha hb hs) (mj Lw)
end
def ki{α:Type}(xs:List α)(lo hi:Option Int):List α:=(xs.drop (HT.bI xs.length 0 lo)).take (HT.bI xs.length xs.length hi-HT.bI xs.length 0 lo)
abbrev WO:=Env->(Option Int->Prop)->Prop
def cW:WO:=λ_ Q=>Q none
def gj(t:WE):WO:=λρ Q=>t ρ λ_ x=>match x with
 |.int i=>Q (some i)
 |_=>False
def OW(m:Md)(x:D)(lo hi:Option Int)(Q:Md->D->Prop):Prop:=match x with
 |.str z=>Q .sh (.str (gu z lo hi))
 |.list xs=>(cS xs=true/\Q (.ow true) (.list (ki xs lo hi)))\/(m=.sh/\Q (.ow false) (.list (ki xs lo hi)))
 |.tup xs=>cS xs=true/\¬ (HT.bI xs.length 0 lo=0/\HT.bI xs.length xs.length hi=xs.length)/\Q .sh (.tup (ki xs lo hi))
 |_=>False
def rg(te:WE)(tl th:WO):WE:=λρ Q=>te ρ λm x=>tl ρ λlo=>th ρ λhi=>OW m x lo hi Q
def tpO(K:PySem.W.Frag)(t:WO):TO:=λσ H Qv=>∃ Hs ρ ag Q,dE K Hs ρ σ H ag/\t ρ Q/\∀ o H' aw,eS Hs H aw H'->Q o->Qv o H'
abbrev QO(X:Cx)(K:PySem.W.Frag)(e:Option Expr)(t:WO):Prop:=PO X e (tpO K t)
theorem lZ(z:Str)(lo hi:Option Int):(gu z lo hi).length<=z.length:=by unfold gu Str.length;simp only[i5,nv,AH,xC];lia
theorem qU{α:Type}(xs:List α)(lo hi:Option Int):(ki xs lo hi).length<=xs.length:=by unfold ki;rw[nv,AH];lia
theorem ug{xs:List D}{lo hi:Option Int}(h:cS xs=true):cS (ki xs lo hi)=true:=by
 rw[tO] at *
 intro x hx;exact h x (T9 (T_ hx))
section
variable {X:Cx}{K:PySem.W.Frag}{e:Expr}{lo hi:Option Expr}{te:WE}{tl th:WO}{pos p2:Pos}
theorem dN:QO X K none cW:=λpins s σ H Q I h=>ig' pins s σ H Q I (by
 obtain⟨Hs,ρ,ag,Qd,sr,h,f⟩:=h;exact f none H Hs (eS.refl sr.wf) h)
theorem cA(h:QE X K e te):QO X K (some e) (gj te):=λpins s σ H Q I hh=>ih' h pins s σ H Q I (by
 obtain⟨Hs,ρ,ag,Qd,sr,h,f⟩:=hh;walk_at"a";walk_at"B"
 cases r with
 |int i=>exact⟨i,rfl,f _ H1 ay g1 q1⟩
 |_=>exact q1.elim)
theorem mW{H:Hp}{ds:List D}{vs:List V}{lo hi:Option Int}(r:bp K H ds vs):bp K H (ki ds lo hi) (AX vs lo hi):=by unfold ki AX;rw[r.length];exact(r.drop _).take _
theorem kj'(hK:X.K=K:=by rfl):He X (λx lo hi H Q=>U5 K x lo hi H Q\/bX' K x lo hi H Q):=by
 subst hK;walk_at"C";rcases h with h|h
 ·exact JM pins s σ H x v vl vu lo hi sl Q I rx hs pl pu h
 ·exact ik' pins s σ H x v vl vu lo hi sl Q I rx hs pl pu h
theorem cU(he:QE X K e te)(hl:QO X K lo tl)(hh:QO X K hi th)(hK:X.K=K:=by rfl):QE X K (.Subscript e (.Slice lo hi none p2) pos) (rg te tl th):=by
 refine PE.imp (ij' (kj' hK) he hl hh) λσ H Qv hx=>iq hx λHs ρ ag Q sr h f=>?_;refine⟨Hs,ρ,ag,_,sr,h,λv H1 ay m x As g1 r1 f1 q1=>⟨ay,ρ,ag,_,sr.grow g1,q1,λl H2 aI g2 q2=>⟨aI,ρ,ag,_,(sr.grow g1).grow g2,q2,λu H3 iA g3 q3=>?_⟩⟩⟩;have r3:=(r1.grow g2).grow g3;have fin:Fin K iA H3 Q Qv:=Fin.after f ((g1.trans g2).trans g3);have rr:=r3.rep g3.wf
 cases rr with
 |str hz=>exact .inl ⟨hz,fin.sh g3.wf (.str (fP (lZ _ _ _) hz)) q3⟩
 |list z s q =>
  have hz:=q.length;rcases q3 with⟨hf,q3⟩|⟨rfl,q3⟩
  ·exact .inl ⟨_,s,fin.lst g3.wf (fP (qU _ _ _) (by lia)) (mW q) (ug hf) q3⟩
  ·obtain⟨_,r3⟩:=r3
   cases r3 with
   |list z' s' q' =>have hz:=q'.length;exact .inl ⟨_,aT.seq g3.wf.sub s',fin.S0 g3.wf (fP (qU _ _ _) (by lia)) (mW q') q3⟩
 |tup z s q =>have hz:=q.length;obtain⟨hf,hn,q3⟩:=q3;exact .inr ⟨_,_,rfl,.inl (.inl s),by rw[<- hz];exact hn,fin.tup g3.wf (fP (qU _ _ _) (by lia)) (mW q) (ug hf) q3⟩
 |_=>exact q3.elim
end
def gS:W1:=λ_ x Q=>match x with
 |.str z=>Q .sh (.int z.length)
 |.list xs=>Q .sh (.int xs.length)
 |.tup xs=>Q .sh (.int xs.length)
 |.dK ae=>Q .sh (.int ae.length)
 |.dT ae=>Q .sh (.int ae.length)
 |_=>False
def z5(T:String):W1:=λ_ x Q=>Q .sh (.bl (HV x.ty T))
def Bi(K:PySem.W.Frag)(r:List V->Hp->VK->Prop)(f:W1):Prop:=∀ Hs H m x v As Qd Qv,Wf Hs H->RM K Hs H m x v As->f m x Qd->Fin K Hs H Qd Qv->r [v] H Qv
section
variable {X:Cx}{K:PySem.W.Frag}{e:Expr}{te:WE}{pos p:Pos}{x:Str}{id T:String}
theorem qb{r:List V->Hp->VK->Prop}{f:W1}(br:Bi K r f)(σ:St)(H:Hp)(Qv:VK)(h:sd K (dr f te) σ H Qv):UK r (bL' (sd K te) bK') σ H Qv:=by obtain⟨Hs,ρ,ag,Q,sr,h,fin⟩:=h;exact⟨Hs,ρ,ag,_,sr,h,λv H1 ay m x As g1 r1 f1 q1=>br ay H1 m x v As Q Qv g1.wf r1 q1 (Fin.after fin g1)⟩
theorem aO{r:List V->Hp->VK->Prop}{f:W1}(hc:i9 X (.builtin id) r)(br:Bi K r f)(hg:Gl X x)(hm:X.mg x=none)(hv:bootBuiltins x=some (.builtin id))(he:QE X K e te)(hs:starEach [e] X.env=(false,eval e X.env) :: starEach [] X.env:=by rfl) (hn:x ≠ "__name__" := by decide) (g7:(x == ("__debug__" : Str))=false:=by decide):QE X K (.Call (.Name x p) [e] [] pos) (dr f te) :=
 PE.imp (R7 hc hg hm hv (mG he rU hs) hn g7 hs) (qb br)
theorem cH{r:List V->Hp->VK->Prop}{f:W1}(hc:i9 X (.type T) r)(br:Bi K r f)(hg:Gl X x)(hm:X.mg x=none)(hv:bootBuiltins x=some (.type T))(he:QE X K e te)(hs:starEach [e] X.env=(false,eval e X.env) :: starEach [] X.env:=by rfl) (hn:x ≠ "__name__" := by decide) (g7:(x == ("__debug__" : Str))=false:=by decide):QE X K (.Call (.Name x p) [e] [] pos) (dr f te) :=
 PE.imp (hO' hc hg hm hv (mG he rU hs) hn g7 hs) (qb br)
theorem Ga{prog:Program}{w:World}{A:Around}{E:Value->Shared->Prop}{s:Shared}{d:Addr}{es:Sy}{ep:Nat}{Q:Value->Shared->Prop}(hd:(d == sysModules)=false)(x:sv s.heap d es ep)(S_:(es.size:Int)<2 ^ 63)(h:∀ t t',Q (.int es.size t) { s with toks:=t' }):wpAny (model prog w) A (call (.builtin "len") [.ref d]) Q E s:=by
 refine Calls.call_function_entry kind_len plain_len entry_len (args_len1 _) ?_;have mt:MeetsIn prog w (Builtin.«dict.__len__» ⟨[.ref d],[]⟩) (λ_ R s=>sv s.heap d es ep/\R (.ok (.ret (.int es.size s.toks))) { s with toks:=s.toks+1 }):=.of_wp λA R s ck=>by obtain⟨hm,h⟩:=ck;obtain⟨o,ho,hc,Sz⟩:=hm;show wpAny _ _ (dictSize d >>= _) _ _ s;unfold dictSize;refine ai (ai (wpAny_dictEntries ho Sz (aE ?_)));show wpAny _ _ (Builtin.Dict.pendingCount d >>= _) _ _ s;refine ai (wpAny_pendingCount_other hd ?_);refine wpAny_ret_mkInt ?_;rw[LH];exact h
 unfold Builtin.«len»;refine ai (m:=oneArg "len" _) (aE ?_);refine ai (m:=callSpecial? (.ref d) (Str.ofString "__len__")) (wpAny_callSpecial?_slot (name:=Str.ofString "__len__") x.typ F.slot_dict_len (call_meetsIn F.slot_dict_len x.typ F.entry_dict_len (F.args_dict_len_1 _) mt ⟨x,?_⟩))
 show wpAny _ _ _ _ _ { s with toks:=s.toks+1 };refine ai (wpAny_holding (aE ?_));refine ai (wpAny_letGo ?_);show wpAny _ _ (if ((es.size:Nat):Int)<0 then _ else _) _ _ _;rw[if_neg (by lia)];show wpAny _ _ (if ((es.size:Nat):Int) >= 2 ^ 63 then _ else _) _ _ _;rw[if_neg (by lia)];exact ai (wpAny_mkInt (aE ⟨_,rfl,h _ _⟩))
theorem aF (hK:X.K=K:=by rfl):i9 X (.builtin "len") (λxs H Q=>Sq K xs H Q\/∃ a ae,xs=[.ref a]/\Rd H a (.dT ae)/\Q (.int ae.length) H):=by
 subst hK;walk_at"o";rcases h with h|⟨a,ae,rfl,ha,q⟩
 ·exact zR pins s σ H xs us Q I r h
 ·walk_at"aG";cases ru;obtain⟨z,hd,ys,rel,o,es,ep,h1,h2,h3,h4,h5⟩:=(show fh X.prog X.w H s.heap a (.dT ae) from I.rd ha)
  have hl:es.size=ae.length:=by have:=congrArg List.length h4;rw[xC,cE] at this;rw[this];exact rel.length.symm
  exact Ga hd ⟨o,h1,h2,h3⟩ (by rw[sizeLine_eq] at z;lia) λt t'=>⟨.int ae.length,H,I.tok _,⟨t,by rw[hl]⟩,q⟩
theorem bJ:Bi K (λxs H Q=>Sq K xs H Q\/∃ a ae,xs=[.ref a]/\Rd H a (.dT ae)/\Q (.int ae.length) H) gS:=by
 walk_at"s";walk_at"ad"
 cases r1 with
 |str hz=>exact .inl ⟨hz,f.sh w (.int _) h⟩
 |list z s q=>exact .inl (.inl ⟨_,s,by rw[<- q.length];exact f.sh w (.int _) h⟩)
 |tup _ s q=>exact .inl (.inr (.inl ⟨_,.inl (.inl s),by rw[<- q.length];exact f.sh w (.int _) h⟩))
 |dK kk s q=>exact .inl (.inr (.inr ⟨_,s,by
   have:=q.length;rw[cE] at this;rw[Rq,cE,<- this,Ry];exact f.sh w (.int _) h⟩))
 |dT kk s q=>exact .inr ⟨_,_,rfl,s,by
   have:=q.length;rw[cE] at this;rw[Rq,cE,<- this,Ry];exact f.sh w (.int _) h⟩
 |_=>exact h.elim
end
section
variable {X:Cx}{K:PySem.W.Frag}{e e2:Expr}{te:WE}{pos p:Pos}{T:String}
theorem zx (hK:X.K=K:=by rfl):i9 X (.builtin "isinstance") (λxs H Q=>∃ x d T,xs=[x,.ty T]/\Rep K H d x/\UX T=true/\Q (.bl (HV d.ty T)) H):=by
 subst hK;walk_at"o";obtain⟨x,d,T,rfl,rd,hT,q⟩:=h;obtain⟨u,v,rfl,ru,rv⟩:=Vals.two r;obtain rfl:v=Value.type T:=rv;have hb:T∈["str", "int", "bool", "list", "tuple", "dict"]:=by simpa[UX] using hT
 have fin:∀ tk,EP X pins σ Q (.bool (HV d.ty T)) { s with toks:=tk }:=λtk=>⟨.bl (HV d.ty T),H,I.tok tk,rfl,q⟩
 cases rd with
 |non=>exact L9 I ru .non (lH X.K _ T (by simp) hb) fin
 |bl b=>exact L9 I ru (.bl b) (lH X.K _ T (by simp) hb) fin
 |int i=>exact L9 I ru (.int i) (lH X.K _ T (by simp) hb) fin
 |str y=>exact L9 I ru (.str _) (lH X.K _ T (by simp) hb) fin
 |list z s' q' =>cases ru;obtain⟨its,_,pl,_⟩:=I.list s';obtain⟨o,h1,h2,_⟩:=pl.isList;exact PySem.W.kia_one PySem.W.kitx_list I.kc ⟨o,h1,h2⟩ (lH X.K "list" T (by simp) hb) (λz=>nomatch z) fin
 |tup _ s' q'=>exact L9 I ru (.tup s') (lH X.K _ T (by simp) hb) fin
 |dK _ s' q' =>cases ru;obtain⟨_,_,vs,_,p⟩:=I.rd s';obtain⟨o,es,ep,h1,h2,_⟩:=p;exact PySem.W.kia_one PySem.W.kitx_dict I.kc ⟨o,h1,h2.1⟩ (lH X.K "dict" T (by simp) hb) (λz=>nomatch z) fin
 |dT _ s' q' =>cases ru;obtain⟨_,_,xs,_,o,es,ep,h1,h2,_⟩:=I.rd s';exact PySem.W.kia_one PySem.W.kitx_dict I.kc ⟨o,h1,h2.1⟩ (lH X.K "dict" T (by simp) hb) (λz=>nomatch z) fin
theorem uH (hm:X.mg "isinstance" = none) (he:QE X K e te) (ht:PE X e2 (tC (.ty T))) (hT:UX T=true:=by rfl) (hg:Gl X "isinstance" := by rfl) (hK:X.K=K:=by rfl) (hs:starEach (e :: [e2]) X.env=(false,eval e X.env) :: starEach [e2] X.env:=by rfl) (sf:starEach (e2 :: []) X.env=(false,eval e2 X.env) :: starEach [] X.env:=by rfl) (hZ:(backTo pos (starEach [e2] X.env)).any (·.1)=false:=by rfl) :
  QE X K (.Call (.Name "isinstance" p) [e,e2] [] pos) (dr (z5 T) te):=by
 refine PE.imp (R7 (zx hK) hg hm jC (mG he (mG ht rU sf) hs) (by decide) (by decide) hs hZ) λσ H Qv hx=>iq hx λHs ρ ag Q sr h f=>?_;refine⟨Hs,ρ,ag,_,sr,h,λv H1 ay m x As g1 r1 f1 q1=>⟨v,x,T,rfl,r1.rep g1.wf,hT,Fin.sh (Fin.after f g1) g1.wf (.bl _) q1⟩⟩
theorem Gg{H:Hp}{d:D}{v:V}{b:Bool}(r:Rep K H d v)(h:S4 d=some b):UD K v H b:=by
 cases r with
 |non=>cases h;rfl
 |bl b=>cases h;rfl
 |int i=>cases h;rfl
 |str hz =>cases h;exact⟨hz,rfl⟩
 |list z s q =>cases h;refine .inl ⟨_,s,?_⟩;cases q<;>rfl
 |tup _ s q =>cases h;refine .inr (.inl ⟨_,.inl (.inl s),?_⟩);cases q<;>rfl
 |dK _ s q=>cases h
 |dT _ s q=>cases h
theorem G5(ha:QE X K e te)(he:∀ whole,isTrue e X.env whole=(do let v <- whole;standAt e.pos;holding [v] (truthy v)):=by intro _;rfl)(hK:X.K=K:=by rfl):QT X K e (S5 te):=by subst hK;refine PT.imp (hw' ha he) λσ H Qv hx=>iq hx λHs ρ ag Q sr h f=>?_;refine⟨Hs,ρ,ag,_,sr,h,λv H1 ay m x As g1 r1 f1 q1=>?_⟩;obtain⟨b,hb,q⟩:=q1;exact⟨b,Gg (r1.rep g1.wf) hb,f b H1 ay g1 q⟩
end
def oD:Key->D
 |.inl i=>.int i
 |.inr x=>.str x
def Ba:W1:=λm x Q=>match x with
 |.list xs=>(cS xs=true/\Q (.ow true) (.list xs))\/(m=.sh/\Q (.ow false) (.list xs))
 |.tup xs=>(cS xs=true/\Q (.ow true) (.list xs))\/(m=.sh/\Q (.ow false) (.list xs))
 |.dT ae=>Q (.ow true) (.list (ae.map λkv=>.tup (kv.1.map oD)))
 |_=>False
section
variable {X:Cx}{K:PySem.W.Frag}
theorem qX{H:Hp}:∀ {ks:List Key},(∀ k∈ks,yb k=true)->bp K H (ks.map oD) (ks.map kV)
 |[],_=>.nil
 |k :: ks,h=>by
  refine .cons ?_ (qX λj m=>h j (cK _ m));have:=h k dv
  cases k with
  |inl i=>exact .int i
  |inr x=>exact .str (by simpa[yb] using this)
theorem nO:∀ (ks:List Key),cS (ks.map oD)=true
 |[]=>rfl
 |k :: ks=>by simp only[fz,cS,nO ks,Bool.and_true];cases k<;>rfl
theorem sG{H:Hp}{ks:List (List Key)}{ys:List V}(t:dg H ys ks)(h:∀ l∈ks,l.length<=sizeLine/\∀ k∈l,yb k=true):bp K H (ks.map λl=>.tup (l.map oD)) ys:=by
 induction ys generalizing ks with
 |nil=>rw[show ks=[] from Paired.n0 t];exact .nil
 |cons y ys ih =>obtain⟨k,ks,rfl,⟨b,rfl,e⟩,t2⟩:=Paired.c t;exact .cons (.tup (by rw[cE];exact(h _ dv).1) e (qX (h _ dv).2)) (ih t2 λl m=>h l (cK _ m))
theorem jn:∀ (ks:List (List Key)),cS (ks.map λl=>.tup (l.map oD))=true
 |[]=>rfl
 |l :: ks=>by simp only[fz,cS,jn ks,Bool.and_true,D.flat,nO]
theorem yW (hc:X.calm=true:=by rfl) (hK:X.K=K:=by rfl):i9 X (.type "list") (λxs H Q=>(∃ p ys,xs=[.ref p]/\(eJ K H p ys\/ke K H p ys)/\∀ l,H l=none->Q (.ref l) (upd H l (.lst ys)))\/xY xs H Q):=by subst hK;exact iB'.or (yN hc)
theorem GD:Bi K (λxs H Q=>(∃ p ys,xs=[.ref p]/\(eJ K H p ys\/ke K H p ys)/\∀ l,H l=none->Q (.ref l) (upd H l (.lst ys)))\/xY xs H Q) Ba:=by
 walk_at"s";walk_at"ad"
 cases r1 with
 |list z s q =>
  have hl:=q.length;rcases h with⟨hf,h⟩|⟨rfl,h⟩
  ·exact .inl ⟨_,_,rfl,.inl s,f.lst w (by lia) q hf h⟩
  ·obtain⟨_,rx⟩:=rx
   cases rx with
   |list z' s' q' =>have hl:=q'.length;exact .inl ⟨_,_,rfl,.inl (aT.seq w.sub s'),f.S0 w (by lia) q' h⟩
 |tup z s q =>
  have hl:=q.length;rcases h with⟨hf,h⟩|⟨rfl,h⟩
  ·exact .inl ⟨_,_,rfl,.inr (.inl (.inl s)),f.lst w (by lia) q hf h⟩
  ·obtain⟨_,rx⟩:=rx
   cases rx with
   |tup z' s' q' =>have hl:=q'.length;exact .inl ⟨_,_,rfl,.inr (.inl (.inl (w.sub _ _ s'))),f.S0 w (by lia) q' h⟩
 |@dT _ vs ae kk s q =>
  refine .inr ⟨_,s,λys l ht hl=>?_⟩;have hlen:=q.length;rw[cE] at hlen;have e:((ae.map (·.1)).zip vs).map (·.1)=ae.map (·.1):=List.map_fst_zip (by rw[cE];exact Nat.le_of_eq hlen);rw[e] at ht;have rr:=sG (K:=K) ht (λl m=>by
   obtain⟨p,hp,rfl⟩:=de.mp m;exact kk.2 p hp)
  have ff:=jn (ae.map (·.1));rw[mz] at rr ff;exact f.lst w (by rw[cE];exact kk.1) rr ff h l hl
 |_=>exact h.elim
end
section
variable {K:PySem.W.Frag}{Hs H:Hp}
theorem SR.Fj{d:D}{v:V}(r:Rep K Hs d v){ρ:Env}{σ:St}{ag:List Addr}(i:Nat)(s:SR K Hs H ρ σ ag):∃ cc,cc.Sublist ag/\SR K Hs H (ρ.set i (some (.sh d))) (σ.set i (some v)) cc:=by
 induction s generalizing i with
 |nil=>exact⟨[],B1 _,.nil⟩
 |non s ih =>
  cases i with
  |zero=>exact⟨_,List.Sublist.refl _,.sh r s⟩
  |succ i=>obtain⟨t,a,b⟩:=ih i;exact⟨t,a,.non b⟩
 |sh q s ih =>
  cases i with
  |zero=>exact⟨_,List.Sublist.refl _,.sh r s⟩
  |succ i=>obtain⟨t,a,b⟩:=ih i;exact⟨t,a,.sh q b⟩
 |xc s ih =>
  cases i with
  |zero=>exact⟨_,List.Sublist.refl _,.sh r s⟩
  |succ i=>obtain⟨t,a,b⟩:=ih i;exact⟨t,a,.xc b⟩
 |ow ne q s ih =>
  cases i with
  |zero=>exact⟨_,pV _ _,.sh r s⟩
  |succ i=>obtain⟨t,a,b⟩:=ih i;exact⟨_,a.append_left _,.ow ne q b⟩
 |lk ne q s ih =>
  cases i with
  |zero=>exact⟨_,pV _ _,.sh r s⟩
  |succ i=>obtain⟨t,a,b⟩:=ih i;exact⟨_,a.append_left _,.lk ne q b⟩
theorem vd{As ag:List Addr}(nd:As.Nodup)(n:ag.Nodup)(dj:∀ a∈As,a∉ag):(As++ag).Nodup:=hJ.mpr ⟨nd,n,λa ha b hb e=>dj a ha (e ▸ hb)⟩
theorem iz{As ag B t:List Addr}(n:(B++ag).Nodup)(dj:∀ a∈As,a∉B++ag)(a:t.Nodup)(b:∀ x∈t,x∈ag\/x∈As):(B++t).Nodup/\∀ x∈B++t,x∈B++ag\/x∈As:=by
 walk_at"n";refine⟨hJ.mpr ⟨n1,a,λx hx y hy e=>?_⟩,λx hx=>?_⟩
 ·subst e;rcases b x hy with z|z
  ·exact n3 x hx x z rfl
  ·exact dj x z (gE _ hx)
 ·rcases eI.mp hx with z|z
  ·exact .inl (gE _ z)
  ·exact(b x z).imp (λz=>dQ _ z) λz=>z
theorem SR.Cg{d:D}{v:V}{fl:Bool}{As:List Addr}(ne:As≠[])(r:bS K Hs H fl d v As)(nd:As.Nodup){ρ:Env}{σ:St}{ag:List Addr}(i:Nat)(s:SR K Hs H ρ σ ag):ag.Nodup->(∀ a∈As,a∉ag) ->
  ∃ cc,cc.Nodup/\(∀ a∈cc,a∈ag\/a∈As)/\SR K Hs H (ρ.set i (some (.ow fl d))) (σ.set i (some v)) cc:=by
 induction s generalizing i with
 |nil=>exact λn _=>⟨[],kA,(λa h=>w9 h),.nil⟩
 |non s ih =>
  intro n dj
  cases i with
  |zero=>exact⟨_,vd nd n dj,λa h=>(eI.mp h).symm,.ow ne r s⟩
  |succ i=>obtain⟨t,a,b,c⟩:=ih i n dj;exact⟨t,a,b,.non c⟩
 |sh q s ih =>
  intro n dj
  cases i with
  |zero=>exact⟨_,vd nd n dj,λa h=>(eI.mp h).symm,.ow ne r s⟩
  |succ i=>obtain⟨t,a,b,c⟩:=ih i n dj;exact⟨t,a,b,.sh q c⟩
 |xc s ih =>
  intro n dj
  cases i with
  |zero=>exact⟨_,vd nd n dj,λa h=>(eI.mp h).symm,.ow ne r s⟩
  |succ i=>obtain⟨t,a,b,c⟩:=ih i n dj;exact⟨t,a,b,.xc c⟩
 |ow ne' q s ih =>
  intro n dj;walk_at"n";have OX:=λa ha m=>dj a ha (dQ _ m)
  cases i with
  |zero=>exact⟨_,vd nd n2 OX,λa h=>(eI.mp h).symm.imp (λz=>dQ _ z) λz=>z,.ow ne r s⟩
  |succ i=>obtain⟨t,a,b,c⟩:=ih i n2 OX;exact⟨_,(iz n dj a b).1,(iz n dj a b).2,.ow ne' q c⟩
 |lk ne' q s ih =>
  intro n dj;walk_at"n";have OX:=λa ha m=>dj a ha (dQ _ m)
  cases i with
  |zero=>exact⟨_,vd nd n2 OX,λa h=>(eI.mp h).symm.imp (λz=>dQ _ z) λz=>z,.ow ne r s⟩
  |succ i=>obtain⟨t,a,b,c⟩:=ih i n2 OX;exact⟨_,(iz n dj a b).1,(iz n dj a b).2,.lk ne' q c⟩
def asg:Md->D->Option Sl
 |.sh,d=>some (.sh d)
 |.ow fl,d=>some (.ow fl d)
 |.bo,d=>bif d.flat then some (.sh d) else none
theorem dE.set{ρ:Env}{σ:St}{ag As:List Addr}{m:Md}{d:D}{v:V}{sl:Sl}(i:Nat)(s:dE K Hs ρ σ H ag)(r:RM K Hs H m d v As)(nd:As.Nodup)(dj:∀ a∈As,Hs a=none/\a∉ag)(e:asg m d=some sl) :
  ∃ cc,dE K Hs (ρ.set i (some sl)) (σ.set i (some v)) H cc:=by
 have shc:Rep K Hs d v->∃ cc,dE K Hs (ρ.set i (some (.sh d))) (σ.set i (some v)) H cc:=λr=>by obtain⟨t,a,b⟩:=s.sr.Fj r i;exact⟨t,b,s.wf,a.nodup s.qE,λx hx=>s.own x (a.subset hx)⟩
 cases m with
 |sh=>cases e;exact shc r.2
 |ow fl =>cases e;obtain⟨t,a,b,c⟩:=SR.Cg r.2 r.1 nd i s.sr s.qE λa ha=>(dj a ha).2;exact⟨t,c,s.wf,a,λx hx=>(b x hx).elim (s.own x) λz=>(dj x z).1⟩
 |bo =>
  cases hf:d.flat with
  |true =>simp only[asg,hf,cond_true,Option.some.injEq] at e;subst e;exact shc (r.flat s.wf hf)
  |false=>simp[asg,hf] at e
end
section
variable {X:Cx}{K:PySem.W.Frag}{e c:Expr}{te:WE}{tc:WT}{pos:Pos}{st:Stmt}{a b rest:List Stmt}{t u:WS}
theorem PS.imp{te pE:TS}(h:PS X st te)(i:∀ D σ H,pE D σ H->te D σ H):PS X st pE:=λpins s σ H D I q=>h pins s σ H D I (i D σ H q)
theorem oo.imp{te pE:TS}(h:oo X a te)(i:∀ D σ H,pE D σ H->te D σ H):oo X a pE:=λpins s σ H D I q=>h pins s σ H D I (i D σ H q)
def bx:WS:=λE ρ=>E.nx ρ
def b5(t u:WS):WS:=λE ρ=>t { E with nx:=u E } ρ
def eP(te:WE):WS:=λE ρ=>te ρ E.rt
def fS(i:Nat)(te:WE):WS:=λE ρ=>te ρ λm d=>match asg m d with
 |some sl=>E.nx (ρ.set i (some sl))
 |none=>False
def eW(c:WT)(t u:WS):WS:=λE ρ=>c ρ λb=>if b=true then t E ρ else u E ρ
theorem aG:nX X K L [] bx:=oo.imp bp' λD σ H hx=>iM hx λHs ρ ag E sr h k1 _ _ _=>k1 σ H Hs ρ ag (aT.refl _) sr h
theorem De{D:Ends}{σ:St}{H:Hp}(h:yi K L (b5 t u) D σ H):bo' (yi K L t) (yi K L u) D σ H:=by
 obtain⟨Hs,ρ,ag,E,sr,h,k1,k2,k3,k4,kx⟩:=h;refine⟨Hs,ρ,ag,{ E with nx:=u E },sr,h,λbq H' aw cy cc s Vs q=>?_,k2,k3,k4,kx⟩;exact⟨aw,cy,cc,E,Vs,q,λkB H2 aI gp fq s2=>k1 kB H2 aI gp fq (s.trans s2),λkB H2 aI gp fq s2=>k2 kB H2 aI gp fq (s.trans s2),λkB H2 aI gp fq s2=>k3 kB H2 aI gp fq (s.trans s2),
  λv H2 aI m d As s2=>k4 v H2 aI m d As (s.trans s2),λn H2 s2=>kx n H2 (s.trans s2)⟩
theorem aj(h1:QS X K L st t)(h2:nX X K L rest u):nX X K L (st :: rest) (b5 t u):=oo.imp (gg' h1 h2) λD σ H h=>De h
theorem aq(h1:QS X K L st t):nX X K L [st] t:=gh' h1
theorem aM(he:QE X K e te):QS X K L (.Return (some e) pos) (eP te):=PS.imp (GV he) λD σ H hx=>iM hx λHs ρ ag E sr h k1 k2 k3 k4 =>
 ⟨Hs,ρ,ag,_,sr,h,λv H1 ay m d As g1 r1 f1 q1=>k4 v H1 ay m d As g1.sh g1.wf r1 f1.1 (λa ha=>(f1.2 a ha).1) q1⟩
def vP(i:Nat):WS:=λE ρ=>match ρ[i]? with
 |some (some (.sh d))=>E.rt .sh d
 |some (some (.ow fl d))=>E.rt (.ow fl) d
 |_=>False
theorem SR.at{ρ:Env}{σ:St}{ag:List Addr}{i:Nat}{fl:Bool}{d:D}{Hs H:Hp}(s:SR K Hs H ρ σ ag)(e:ρ[i]? = some (some (.ow fl d))):∃ v As,σ[i]? = some (some v)/\As≠[]/\bS K Hs H fl d v As/\As.Sublist ag:=by
 induction s generalizing i with
 |nil=>simp at e
 |non s ih =>
  cases i with
  |zero=>simp at e
  |succ i=>exact ih e
 |sh r s ih =>
  cases i with
  |zero=>simp at e
  |succ i=>exact ih e
 |xc s ih =>
  cases i with
  |zero=>simp at e
  |succ i=>exact ih e
 |ow ne r s ih =>
  cases i with
  |zero=>simp at e;obtain⟨rfl,rfl⟩:=e;exact⟨_,_,rfl,ne,r,FK _ _⟩
  |succ i =>obtain⟨v,As,a,b,c,d⟩:=ih e;exact⟨v,As,a,b,c,d.trans (pV _ _)⟩
 |lk ne r s ih =>
  cases i with
  |zero=>simp at e
  |succ i =>obtain⟨v,As,a,b,c,d⟩:=ih e;exact⟨v,As,a,b,c,d.trans (pV _ _)⟩
theorem qM{i:Nat}(he:PE X e (AQ i)):QS X K L (.Return (some e) pos) (vP i):=PS.imp (GV he) λD σ H hx=>iM hx λHs ρ ag E sr h k1 k2 k3 k4=>by
 unfold vP at h;split at h
 ·rename_i d e1;obtain⟨v,e2,r⟩:=sr.sr.get e1;exact⟨v,e2,k4 v H Hs .sh d [] (aT.refl _) sr.wf ⟨rfl,r⟩ kA (λa ha=>nomatch ha) h⟩
 ·rename_i fl d e1;obtain⟨v,As,e2,ne,r,sb⟩:=sr.sr.at e1;exact⟨v,e2,k4 v H Hs (.ow fl) d As (aT.refl _) sr.wf ⟨r,ne⟩ (sb.nodup sr.qE) (λa ha=>sr.own a (sb.subset ha)) h⟩
 ·exact h.elim
theorem aZ{i:Nat}{x:Str}{pos':Pos}(hN:X.N.Nodup)(hi:X.N[i]? = some x)(hx:Loc X.env.scope x)(he:QE X K e te)(hs:swapsWith e (some (.Name x pos')) pos.line X.env=pure false:=by rfl) (hf:X.fn x=true\/X.env.scope.names.lookup x=some .local:=by first|exact .inl rfl|exact .inr rfl|assumption):QS X K L (.Assign [.Name x pos'] e pos) (fS i te):=PS.imp (Ux hN hi hx he hs hf) λD σ H hx=>iM hx λHs ρ ag E sr h k1 k2 k3 k4=>by
 walk_at"P"
 have q1:match asg m d with
  |some sl=>E.nx (ρ.set i (some sl))
  |none=>False:=q1
 cases e:asg m d with
 |none=>rw[e] at q1;exact q1.elim
 |some sl =>rw[e] at q1;obtain⟨cc,s'⟩:=(sr.grow g1).set i r1 f1.1 (λa ha=>⟨(f1.2 a ha).1,λm=>(sr.sr.own a m).ne (f1.2 a ha).2⟩) e;exact k1 _ H1 ay _ cc g1.sh s' q1
theorem bD(hc:QT X K c tc)(ha:nX X K L a t)(hb:nX X K L b u):QS X K L (.If c a b pos) (eW tc t u):=PS.imp (gl' hc ha hb) λD σ H hx=>ir hx λHs ρ ag E sr h k1 k2 k3 k4 kx=>by
 refine⟨Hs,ρ,ag,_,sr,h,λk H1 ay g1 q1=>?_⟩;have k1':∀ bq H' aw cy cc,aT ay aw->dE K aw cy bq H' cc->E.nx cy->D.nx bq H':=λkB H2 aI gp fq s2=>k1 kB H2 aI gp fq (g1.sh.trans s2);have k2':∀ bq H' aw cy cc,aT ay aw->dE K aw cy bq H' cc->E.bk cy->D.bk bq H':=λkB H2 aI gp fq s2=>k2 kB H2 aI gp fq (g1.sh.trans s2);have k3':∀ bq H' aw cy cc,aT ay aw->dE K aw cy bq H' cc->E.ct cy->D.ct bq H':=λkB H2 aI gp fq s2=>k3 kB H2 aI gp fq (g1.sh.trans s2)
 cases k with
 |true=>exact⟨ay,ρ,ag,E,sr.grow g1,q1,k1',k2',k3',(λv H2 aI m d As s2=>k4 v H2 aI m d As (g1.sh.trans s2)),λn H2 s2=>kx n H2 (g1.sh.trans s2)⟩
 |false=>exact⟨ay,ρ,ag,E,sr.grow g1,q1,k1',k2',k3',(λv H2 aI m d As s2=>k4 v H2 aI m d As (g1.sh.trans s2)),λn H2 s2=>kx n H2 (g1.sh.trans s2)⟩
def sM(Hs H:Hp)(As:List Addr):Hp:=λa=>if a∈As then H a else Hs a
theorem jy{Hs H:Hp}{As:List Addr}(n:∀ a∈As,Hs a=none):aT Hs (sM Hs H As):=λa o e=>by unfold sM;rw[if_neg λm=>by rw[n a m] at e;cases e];exact e
theorem Ah{Hs H:Hp}{As:List Addr}(w:Wf Hs H)(o:∀ a∈As,Own H a):Wf (sM Hs H As) H:=⟨λa u e=>by
  unfold sM at e;by_cases m:a∈As
  ·rw[if_pos m] at e;exact e
  ·rw[if_neg m] at e;exact w.sub a u e,λa vs e=>by
  unfold sM;rw[if_neg λm=>(o a m).Ff e];exact w.iN a vs e⟩
def OY:Sl->Sl
 |.sh d=>.sh d
 |.ow _ d=>.sh d
 |.lk a fl d=>.lk a fl d
 |.xc a=>.xc a
def Vt:Sl->Sl
 |.sh d=>.sh d
 |.ow _ d=>.sh d
 |.lk _ _ d=>.sh d
 |.xc a=>.xc a
def OZ(i:Nat)(ρ:Env):Env:=match ρ[i]? with
 |some (some sl)=>ρ.set i (some (OY sl))
 |_=>ρ
theorem rJ{As ag B t:List Addr}(n:(B++ag).Nodup)(a:As.Sublist ag)(c:∀ x∈As,x∉t):∀ x∈As,x∉B++t:=λx hx m=>by
 walk_at"n";rcases eI.mp m with z|z
 ·exact n3 x z x (a.subset hx) rfl
 ·exact c x hx z
theorem SR.mB{Hs H:Hp}{ρ:Env}{σ:St}{ag:List Addr}(i:Nat){fl:Bool}{d:D}(s:SR K Hs H ρ σ ag):ρ[i]? = some (some (.ow fl d))->ag.Nodup ->
  ∃ (As cc:List Addr),As.Sublist ag/\cc.Sublist ag/\(∀ a∈As,a∉cc)/\∀ aw,aT Hs aw->(∀ a∈As,aw a=H a)->SR K aw H (ρ.set i (some (.sh d))) σ cc:=by
 induction s generalizing i with
 |nil=>intro e;simp at e
 |non q ih =>
  intro e n
  cases i with
  |zero=>simp at e
  |succ i =>obtain⟨As,t,a,b,c,d⟩:=ih i e n;exact⟨As,t,a,b,c,λaw s k=>.non (d aw s k)⟩
 |sh r q ih =>
  intro e n
  cases i with
  |zero=>simp at e
  |succ i =>obtain⟨As,t,a,b,c,d⟩:=ih i e n;exact⟨As,t,a,b,c,λaw s k=>.sh (r.same s) (d aw s k)⟩
 |xc q ih =>
  intro e n
  cases i with
  |zero=>simp at e
  |succ i =>obtain⟨As,t,a,b,c,d⟩:=ih i e n;exact⟨As,t,a,b,c,λaw s k=>.xc (d aw s k)⟩
 |ow ne r q ih =>
  intro e n;walk_at"n"
  cases i with
  |zero =>simp at e;obtain⟨rfl,rfl⟩:=e;exact⟨_,_,FK _ _,pV _ _,λa h m=>n3 a h a m rfl,λaw s k=>.sh (r.rep s k) (q.fA s λ_ _=>rfl)⟩
  |succ i =>obtain⟨As,t,a,b,c,d⟩:=ih i e n2;exact⟨As,_,a.trans (pV _ _),b.append_left _,rJ n a c,λaw s k=>.ow ne (r.fA s λ_ _=>rfl) (d aw s k)⟩
 |lk ne r q ih =>
  intro e n;walk_at"n"
  cases i with
  |zero=>simp at e
  |succ i =>obtain⟨As,t,a,b,c,d⟩:=ih i e n2;exact⟨As,_,a.trans (pV _ _),b.append_left _,rJ n a c,λaw s k=>.lk ne (r.fA s λ_ _=>rfl) (d aw s k)⟩
theorem dE.mB{ρ:Env}{σ:St}{ag:List Addr}{Hs H:Hp}(i:Nat)(s:dE K Hs ρ σ H ag):∃ aw cc,aT Hs aw/\dE K aw (OZ i ρ) σ H cc:=by
 unfold OZ;split
 ·rename_i sl e;have keep:OY sl=sl->∃ aw cc,aT Hs aw/\dE K aw (ρ.set i (some (OY sl))) σ H cc:=λhs=>by
   have e2:ρ.set i (some (OY sl))=ρ:=by
    apply KW;intro j;rw[List.getElem?_set];by_cases h:i=j
    ·subst h;rw[if_pos rfl,e];have:i<ρ.length:=(pT.mp e).1;simp[this,hs]
    ·rw[if_neg h]
   rw[e2];exact⟨Hs,ag,aT.refl _,s⟩
  cases sl with
  |sh d=>exact keep rfl
  |xc a=>exact keep rfl
  |lk a fl d=>exact keep rfl
  |ow fl d =>obtain⟨As,t,a,b,c,g⟩:=SR.mB i s.sr e s.qE;have hn:∀ a∈As,Hs a=none:=λx hx=>s.own x (a.subset hx);have ho:∀ a∈As,Own H a:=λx hx=>s.sr.own x (a.subset hx);refine⟨sM Hs H As,t,jy hn,g _ (jy hn) λx hx=>by unfold sM;rw[if_pos hx],Ah s.wf ho,b.nodup s.qE,λx hx=>?_⟩;unfold sM;rw[if_neg λm=>c x m hx];exact s.own x (b.subset hx)
 ·exact⟨Hs,ag,aT.refl _,s⟩
def sN(i:Nat)(t:WS):WS:=λE ρ=>t E (OZ i ρ)
theorem Ef{i:Nat}{D:Ends}{σ:St}{H:Hp}(h:yi K L (sN i t) D σ H):yi K L t D σ H:=by
 obtain⟨Hs,ρ,ag,E,sr,h,k1,k2,k3,k4,kx⟩:=h;obtain⟨aw,cc,s,Vs⟩:=sr.mB i;exact⟨aw,_,cc,E,Vs,h,λkB H2 aI gp fq s2=>k1 kB H2 aI gp fq (s.trans s2),λkB H2 aI gp fq s2=>k2 kB H2 aI gp fq (s.trans s2),λkB H2 aI gp fq s2=>k3 kB H2 aI gp fq (s.trans s2),
  λv H2 aI m d As s2=>k4 v H2 aI m d As (s.trans s2),λn H2 s2=>kx n H2 (s.trans s2)⟩
theorem gY(i:Nat)(h:QS X K L st t):QS X K L st (sN i t):=PS.imp h λD σ H h=>Ef h
def mH(ay H1 aw H':Hp):Hp:=λa=>match H' a with
 |some (.tup vs)=>some (.tup vs)
 |_=>match H1 a with
  |none=>aw a
  |some _=>ay a
theorem g_{ay H1 aw H':Hp}(w:Wf ay H1)(s:aT H1 aw)(w':Wf aw H'):eS ay H1 (mH ay H1 aw H') H':=by
 have sa:aT H1 H':=s.trans w'.sub;have tp:∀ a vs,H' a=some (.tup vs)->mH ay H1 aw H' a=some (.tup vs):=λa vs e=>by unfold mH;rw[e]
 have nt:∀ a,(∀ vs,H' a≠some (.tup vs))->mH ay H1 aw H' a=match H1 a with
  |none=>aw a
  |some _=>ay a:=λa h=>by
  unfold mH;split
  ·rename_i vs e;exact absurd e (h vs)
  ·rfl
 refine⟨sa,λa o e=>?_,⟨λa o e=>?_,tp⟩,λa h=>?_⟩
 ·have e1:=w.sub a o e;have e2:=sa a o e1;by_cases ht:∃ vs,o=.tup vs
  ·obtain⟨vs,rfl⟩:=ht;exact tp a vs e2
  ·rw[nt a λvs z=>ht ⟨vs,by rw[e2] at z;exact Option.some.inj z⟩,e1];exact e
 ·by_cases ht:∃ vs,H' a=some (.tup vs)
  ·obtain⟨vs,z⟩:=ht;rw[tp a vs z] at e;rw[z];exact e
  ·rw[nt a λvs z=>ht ⟨vs,z⟩] at e
   cases q:H1 a with
   |none=>rw[q] at e;exact w'.sub a o e
   |some u =>rw[q] at e;have:=w.sub a o e;exact sa a o this
 ·cases q:H1 a with
  |none=>exact .inr rfl
  |some u =>
   refine .inl ?_;by_cases ht:∃ vs,H' a=some (.tup vs)
   ·obtain⟨vs,z⟩:=ht;have:=sa a u q;rw[z] at this;cases this;rw[w.iN a vs q];exact λz=>nomatch z
   ·rw[nt a λvs z=>ht ⟨vs,z⟩,q] at h;exact h
theorem zG{ay H1 aw H':Hp}{a:Addr}(s:aT H1 aw)(h:aw a=none)(o:Own H' a):mH ay H1 aw H' a=none/\H1 a=none:=by
 have h1:=s.free h;refine⟨?_,h1⟩;unfold mH;split
 ·rename_i vs e;exact absurd e o.Ff
 ·rw[h1];exact h
def uk:Md->D->Md
 |.ow true,_=>.ow true
 |_,d=>bif d.flat then .sh else .bo
theorem qZ{ay H1 aw H':Hp}{m:Md}{d:D}{v:V}{As:List Addr}(w:Wf ay H1)(s:aT H1 aw)(w':Wf aw H')(r:RM K aw H' m d v As)(nd:As.Nodup)(own:∀ a∈As,aw a=none) :
  ∃ fI,RM K (mH ay H1 aw H') H' (uk m d) d v fI/\cX (mH ay H1 aw H') H1 fI:=by
 have g:=g_ w s w';have other:∃ fI,RM K (mH ay H1 aw H') H' (bif d.flat then .sh else .bo) d v fI/\cX (mH ay H1 aw H') H1 fI:=by
  cases hf:d.flat with
  |true=>exact⟨[],⟨rfl,(r.rep w').lg g.wf.iN hf⟩,cX.nil⟩
  |false=>exact⟨[],⟨rfl,r.rep w'⟩,cX.nil⟩
 cases m with
 |sh=>exact other
 |bo=>exact other
 |ow fl =>
  cases fl with
  |false=>exact other
  |true=>exact⟨As,⟨bS.leaves (λa vs e=>g.wf.iN a vs (w'.sub _ _ e)) r.1,r.2⟩,nd,λa h=>zG s (own a h) (r.own a h)⟩
abbrev eA:=List D->(Md->D->Prop)->Prop
def aA(K:PySem.W.Frag)(sp:eA):Sp:=λvs H Qv _=>∃ ds Qd,bp K H ds vs/\sp ds Qd /\
 ∀ v H' aw m d As,aT H aw->Wf aw H'->RM K aw H' m d v As->As.Nodup->(∀ a∈As,aw a=none)->Qd m d->Qv v H'
def aX(n:Nat)(ds:List D):Env:=ds.map (λd=>some (.sh d))++List.replicate (n-ds.length) none
theorem SR.start{H:Hp}{ds:List D}{vs:List V}{n:Nat}(r:bp K H ds vs):SR K H H (ds.map (λd=>some (.sh d))++List.replicate n none) (vs.map some++List.replicate n none) []:=by
 induction ds generalizing vs with
 |nil =>
  rw[r.n0]
  induction n with
  |zero=>exact .nil
  |succ n ih=>exact .non ih
 |cons d ds ih =>obtain⟨u,us,rfl,r,rs⟩:=r.c;exact .sh r (ih rs)
theorem Bk{sp:eA}{N:List Str}{vs:List V}{H:Hp}{Qv:VK}{E:XK}(h:aA K sp vs H Qv E)(hp:∀ ds Q,sp ds Q->t { nx:=λ_=>Q .sh .non,rt:=Q } (aX N.length ds)) :
  yi K L0 t { nx:=λ_ H'=>Qv .non H',rt:=Qv } (start N vs) H:=by
 obtain⟨ds,Qd,rs,hs,fin⟩:=h;have hl:=rs.length;refine⟨H,aX N.length ds,[],{ nx:=λ_=>Qd .sh .non,rt:=Qd },⟨?_,⟨aT.refl _,λ_ _ e=>e⟩,kA,λa h=>nomatch h⟩,hp ds Qd hs,?_,?_,?_,?_,λ_ _ _ _=>trivial⟩
 ·unfold aX start;rw[hl];exact SR.start rs
 ·exact λbq H' aw cy cc s sr q=>fin .non H' aw .sh .non [] s sr.wf ⟨rfl,.non⟩ kA (λa h=>nomatch h) q
 ·exact λbq H' aw cy cc s sr q=>q.elim
 ·exact λbq H' aw cy cc s sr q=>q.elim
 ·exact λv H' aw m d As s w r nd own q=>fin v H' aw m d As s w r nd own q
theorem n9.ok{P:Program}{w:World}{mg:Str->Option Value}{base:Heap}{x qual:Str}{st:Stmt}{f:Addr}{fd:FuncData}{N ps:List Str}{k:Nat}{sp:eA}{t:WS}(F:eK K x qual st f fd)(S:gL N ps (bG st))(len:∀ ds Q,sp ds Q->ds.length=ps.length)(AV:∀ (bT:Value) (A:Around) (outer:List PySem.Env) (s:Shared) (H:Hp) (E:XK),gI k (A.deeper (envOfC qual (bG st) s.heap.objs.size f bT))->nX (kD iO P w K mg base N qual (bG st) f bT A outer s H E).L4 K L0 (eM st) t)(hp:∀ ds Q,sp ds Q->t { nx:=λ_=>Q .sh .non,rt:=Q } (aX N.length ds)):fi P w K mg base iO (k+1) f fd ps (aA K sp) :=
 F.ok S (λvs H Q E ⟨ds,Qd,rs,hs,_⟩=>by rw[<- rs.length];exact len ds Qd hs) λbT A outer s H vs Q E hr hs=>⟨_,AV bT A outer s H E hr,Bk hs hp⟩
def cC(sp:eA)(t:WA):WE:=λρ Q=>t ρ λps=>sp (ps.map (·.2)) λm d=>bP (m,d) (f:=λp=>Q (uk p.1 p.2) p.2) ⟨⟩
theorem Af{sp:eA}{t:WA}{σ:St}{H:Hp}{Qv:VK}{E:XK}(h:sd K (cC sp t) σ H Qv):Mb (aA K sp) [] E (Vl K t) σ H Qv:=by obtain⟨Hs,ρ,ag,Q,sr,h,f⟩:=h;refine⟨Hs,ρ,ag,_,sr,h,λvs H1 ay ps As g1 r1 f1 q1=>?_⟩;refine⟨_,_,by rw[og];exact r1.reps g1.wf,q1,λv H' aw m d As s w r nd own q=>?_⟩;obtain⟨fI,r',fr⟩:=qZ g1.wf s w r nd own;exact Fin.after f g1 v H' _ (uk m d) d fI (g_ g1.wf s w) r' fr q
theorem cY {k:Nat} {x:Str} {ps:List Str} {sp:eA} {p:Pos} {es:List Expr} {t:WA} (C:dP X.prog X.w X.K X.mg X.base k x ps (aA K sp)) (hr:gI k X.A) (ha:QA X K (e :: es) t) (hg:Gl X x:=by rfl) (g7:(x == ("__debug__" : Str))=false:=by decide) (he:starEach (e :: es) X.env=(false,eval e X.env) :: starEach es X.env:=by rfl) (hZ:(backTo pos (starEach es X.env)).any (·.1)=false:=by rfl):QE X K (.Call (.Name x p) (e :: es) [] pos) (cC sp t):=PE.imp (Jj C hr ha hg g7 he hZ) λσ H Qv h=>Af h
end
abbrev WG:=D->Env->(Env->Prop)->Prop
def Vu(K:PySem.W.Frag)(g:WG):TG:=λv σ H Qv=>∃ Hs ρ ag d Q,dE K Hs ρ σ H ag/\Rep K Hs d v/\g d ρ Q/\∀ bq cy cc,dE K Hs cy bq H cc->(∀ a∈cc,a∈ag)->Q cy->Qv bq H
abbrev QG(X:Cx)(K:PySem.W.Frag)(e:Expr)(g:WG):Prop:=PG X e (Vu K g)
def gN(i:Nat):WG:=λd ρ Q=>Q (ρ.set i (some (.sh d)))
abbrev WGs:=List D->Env->(Env->Prop)->Prop
def gT(n:Nat)(gs:WGs):WG:=λd ρ Q=>match d with
 |.tup ds=>ds.length=n/\gs ds ρ Q
 |_=>False
section
variable {X:Cx}{K:PySem.W.Frag}{e:Expr}{pos:Pos}
theorem PG.imp{t t':TG}(h:PG X e t)(i:∀ v σ H Q,t' v σ H Q->t v σ H Q):PG X e t':=λpins s σ H v u Q I r q=>h pins s σ H v u Q I r (i v σ H Q q)
theorem dE.Hd{ρ:Env}{σ:St}{ag:List Addr}{Hs H:Hp}{d:D}{v:V}(i:Nat)(s:dE K Hs ρ σ H ag)(r:Rep K Hs d v):∃ cc,(∀ a∈cc,a∈ag)/\dE K Hs (ρ.set i (some (.sh d))) (σ.set i (some v)) H cc:=by obtain⟨t,a,b⟩:=s.sr.Fj r i;exact⟨t,λx hx=>a.subset hx,b,s.wf,a.nodup s.qE,λx hx=>s.own x (a.subset hx)⟩
theorem cD{i:Nat}{x:Str}(hN:X.N.Nodup)(hi:X.N[i]? = some x)(hx:Loc X.env.scope x)(hf:X.fn x=true\/X.env.scope.names.lookup x=some .local:=by first|exact .inl rfl|exact .inr rfl|assumption):QG X K (.Name x pos) (gN i) :=
 PG.imp (Uw hN hi hx hf) λv σ H Qv ck=>by obtain⟨Hs,ρ,ag,d,Q,sr,r,h,k⟩:=ck;obtain⟨t,m,s⟩:=sr.Hd i r;exact k _ _ t s m h
end
abbrev WI:=Env->(List D->Prop)->Prop
structure vo(K:PySem.W.Frag)(J:It)(ds:List D)(C:Hp->Hp->Prop):Prop where
 go:∀ i Hs H,C Hs H->Wf Hs H->i<ds.length->J.go i H
 kM:∀ i Hs H x H' d,C Hs H->Wf Hs H->ds[i]? = some d->J.kM i H x H'->∃ aw,eS Hs H aw H'/\Rep K aw d x
 stop:∀ Hs H,C Hs H->Wf Hs H->J.stop ds.length H
abbrev zZ(K:PySem.W.Frag)(Hs:Hp)(J:It)(ds:List D):Prop:=vo K J ds λG _=>aT Hs G
section
variable {K:PySem.W.Frag}{Hs:Hp}{J:It}{ds:List D}{C C':Hp->Hp->Prop}{a:Addr}
theorem vo.imp(S:vo K J ds C)(h:∀ Hs H,C' Hs H->C Hs H):vo K J ds C':=⟨λi Hs H c=>S.go i Hs H (h _ _ c),λi Hs H x H' d c=>S.kM i Hs H x H' d (h _ _ c),λHs H c=>S.stop Hs H (h _ _ c)⟩
theorem vo.seq{vs:List V}(rs:bp K Hs ds vs)(S:lO J vs λH=>aT Hs H):zZ K Hs J ds where
 go:=λi G H s w h=>S.go i H (s.trans w.sub) (by rw[<- rs.length];exact h)
 kM:=λi G H x H' d s w h y=>by
  have hi:i<ds.length:=by
   rcases Nat.lt_or_ge i ds.length with q|q
   ·exact q
   ·rw[BU q] at h;cases h
  obtain⟨e,z⟩:=S.kM i H x H' (s.trans w.sub) (by rw[<- rs.length];exact hi) y;subst e;obtain⟨d',ed,rd⟩:=rs.db' z;rw[h] at ed;cases ed;exact⟨G,eS.refl w,rd.same s⟩
 stop:=λG H s w=>by rw[rs.length];exact S.stop H (s.trans w.sub)
abbrev Fi(K:PySem.W.Frag)(a:Addr)(ds:List D)(C:Hp->Hp->Prop):Prop:=∀ Hs H,C Hs H->Wf Hs H->∃ vs,eJ K H a vs/\bp K Hs ds vs
theorem vo.list(h:Fi K a ds C):vo K (CD K a) ds C where
 go:=λi G H c w hi=>by obtain⟨vs,q,rs⟩:=h G H c w;exact⟨vs,vs[i]'(by rw[<- rs.length];exact hi),q,by simp⟩
 kM:=λi G H x H' d c w hd y=>by obtain⟨vs,q,rs⟩:=h G H c w;obtain⟨rfl,y⟩:=y;obtain⟨d',ed,rd⟩:=rs.db' (y vs q);rw[hd] at ed;cases ed;exact⟨G,eS.refl w,rd⟩
 stop:=λG H c w=>by obtain⟨vs,q,rs⟩:=h G H c w;exact⟨vs,q,by rw[rs.length];exact bE _⟩
theorem tH{vs:List V}(s:eJ K Hs a vs)(rs:bp K Hs ds vs):Fi K a ds λG _=>aT Hs G:=λG H c w=>⟨vs,aT.seq (c.trans w.sub) s,rs.same c⟩
end
def tpI(K:PySem.W.Frag)(wi:WI):TI:=λσ H R=>∃ Hs ρ ag Q,dE K Hs ρ σ H ag/\wi ρ Q/\∀ J H' aw ds,eS Hs H aw H'->zZ K aw J ds->ds.length<=sizeLine->Q ds->R J H'
abbrev QI(X:Cx)(K:PySem.W.Frag)(tg iter:Expr)(wi:WI):Prop:=PI X tg iter (tpI K wi)
def pR:Md->Prop
 |.bo=>False
 |_=>True
def lB(te:WE):WI:=λρ Q=>te ρ λm d=>pR m/\match d with
 |.list xs=>Q xs
 |_=>False
def BL(te:WE):WI:=λρ Q=>te ρ λm d=>pR m/\match d with
 |.tup xs=>Q xs
 |_=>False
def IJ(z:Str):List D:=z.cps.toList.map λc=>.str ⟨#[c]⟩
def wU(te:WE):WI:=λρ Q=>te ρ λ_ d=>match d with
 |.str z=>Q (IJ z)
 |_=>False
def yI(lo:Int)(n:Nat):List D:=(List.range n).map λi=>.int (lo+(i:Nat))
def xx(te:WE):WI:=λρ Q=>te ρ λ_ d=>match d with
 |.int j=>j<=16777216/\-(2 ^ 62)<=j/\Q (yI 0 j.toNat)
 |_=>False
section
variable {X:Cx}{K:PySem.W.Frag}{e e2 tg:Expr}{te te2:WE}{pos p:Pos}
theorem PI.imp{iter:Expr}{t t':TI}(h:PI X tg iter t)(i:∀ σ H R,t' σ H R->t σ H R):PI X tg iter t':=λpins s σ H R I q=>h pins s σ H R I (i σ H R q)
theorem lO.imp{J:It}{vs:List V}{c c':Hp->Prop}(s:lO J vs c)(h:∀ H,c' H->c H):lO J vs c':=⟨λi H q=>s.go i H (h H q),λi H x H' q=>s.kM i H x H' (h H q),λH q=>s.stop H (h H q)⟩
theorem RM.Ag{Hs H ay H1:Hp}{m:Md}{d:D}{v:V}{As:List Addr}(g:eS Hs H ay H1)(r:RM K ay H1 m d v As)(f:cX ay H As)(h:pR m):∃ aI,eS Hs H aI H1/\Rep K aI d v:=by
 cases m with
 |sh=>exact⟨ay,g,r.2⟩
 |bo=>exact h.elim
 |ow fl =>
  have n:∀ a∈As,ay a=none:=λa ha=>(f.2 a ha).1;have o:=r.own;refine⟨sM ay H1 As,⟨g.all,g.sh.trans (jy n),Ah g.wf o,λa h=>?_⟩,bS.rep (jy n) r.1 λa ha=>by unfold sM;rw[if_pos ha]⟩;unfold sM at h;by_cases m:a∈As
  ·exact .inr (f.2 a m).2
  ·rw[if_neg m] at h;exact g.new a h
theorem oW(he:QE X K e te)(hK:X.K=K:=by rfl):QI X K tg e (lB te):=by
 subst hK;refine PI.imp (bx' he) λσ H R hx=>iq hx λHs ρ ag Q sr h k=>⟨Hs,ρ,ag,_,sr,h,λv H1 ay m d As g1 r1 f1 q1=>?_⟩
 obtain⟨nb,q1⟩:=q1;obtain⟨aI,g2,r2⟩:=r1.Ag g1 f1 nb
 cases r2 with
 |list z s rs=>exact⟨_,rfl,⟨_,aT.seq g2.wf.sub s⟩,k _ H1 aI _ g2 (.seq rs (lO.imp (Di X.K _ _) λH' s'=>aT.seq s' s)) (by rw[rs.length];exact z) q1⟩
 |_=>exact q1.elim
theorem Jf(he:QE X K e te)(hK:X.K=K:=by rfl):QI X K tg e (BL te):=by
 subst hK;refine PI.imp (gx' he) λσ H R hx=>iq hx λHs ρ ag Q sr h k=>⟨Hs,ρ,ag,_,sr,h,λv H1 ay m d As g1 r1 f1 q1=>?_⟩
 obtain⟨nb,q1⟩:=q1;obtain⟨aI,g2,r2⟩:=r1.Ag g1 f1 nb
 cases r2 with
 |tup z s rs=>exact⟨_,rfl,⟨_,.inl (.inl (g2.wf.sub _ _ s))⟩,k _ H1 aI _ g2 (.seq rs (lO.imp (Fo X.K _ _) λH' s'=>.inl (.inl (s' _ _ s)))) (by rw[rs.length];exact z) q1⟩
 |_=>exact q1.elim
theorem xT{H:Hp}:∀ (l:List Nat),bp K H (l.map λc=>.str ⟨#[c]⟩) (l.map λc=>V.str ⟨#[c]⟩)
 |[]=>.nil
 |c :: l=>.cons (.str (zy c)) (xT l)
theorem xg(he:QE X K e te):QI X K tg e (wU te):=by
 refine PI.imp (Jk he) λσ H R hx=>iq hx λHs ρ ag Q sr h k=>⟨Hs,ρ,ag,_,sr,h,λv H1 ay m d As g1 r1 f1 q1=>?_⟩
 walk_at"B"
 cases r with
 |str hz=>exact⟨_,rfl,k _ H1 ay _ g1 (.seq (xT _) (lO.imp (HW _) λ_ _=>trivial)) (by rw[cE,xC];exact hz) q1⟩
 |_=>exact q1.elim
theorem uD{H:Hp}(lo:Int):∀ (l:List Nat),bp K H (l.map λi=>.int (lo+(i:Nat))) (l.map λi=>V.int (lo+(i:Nat)))
 |[]=>.nil
 |c :: l=>.cons (.int _) (uD lo l)
theorem Ht (hm:X.mg "range" = none) (he:QE X K e te) (hg:Gl X "range" := by rfl) (hs:starEach [e] X.env=(false,eval e X.env) :: starEach [] X.env:=by rfl) (fF:starEach [e] X.env=[(false,eval e X.env)]:=by rfl):QI X K tg (.Call (.Name "range" p) [e] [] pos) (xx te):=by
 refine PI.imp (gA' hg hm (mG he rU hs) fF) λσ H R hx=>iq hx λHs ρ ag Q sr h k=>⟨Hs,ρ,ag,_,sr,h,λv H1 ay m d As g1 r1 f1 q1=>?_⟩
 walk_at"B"
 cases r with
 |int j =>obtain⟨h1,h2,q1⟩:=q1;exact⟨j,rfl,h2,by lia,k _ H1 ay _ g1 (.seq (uD 0 _) (lO.imp (FN _ _) λ_ _=>trivial)) (by rw[cE,Ue,sizeLine_eq];lia) q1⟩
 |_=>exact q1.elim
section
variable {X:Cx}{K:PySem.W.Frag}{e tg:Expr}{te:WE}
def Ta(K:PySem.W.Frag)(wi:WI):TI:=λσ H R=>∃ Hs ρ ag Q,dE K Hs ρ σ H ag/\wi ρ Q/\∀ J H' aw ds,eS Hs H aw H'->zZ K H' J ds->ds.length<=sizeLine->Q ds->R J H'
abbrev Tb(X:Cx)(K:PySem.W.Frag)(tg iter:Expr)(wi:WI):Prop:=PI X tg iter (Ta K wi)
theorem yo{iter:Expr}{wi:WI}(h:QI X K tg iter wi):Tb X K tg iter wi:=PI.imp h λσ H R hx=>iq hx λHs ρ ag Q sr h k=>⟨Hs,ρ,ag,Q,sr,h,λJ H' aw ds g w z q=>k J H' aw ds g (w.imp λG H s=>g.wf.sub.trans s) z q⟩
def iT(te:WE):WI:=λρ Q=>te ρ λ_ d=>match d with
 |.list xs=>Q xs
 |_=>False
theorem q_(he:QE X K e te)(hK:X.K=K:=by rfl):Tb X K tg e (iT te):=by
 subst hK;refine PI.imp (bx' he) λσ H R hx=>iq hx λHs ρ ag Q sr h k=>⟨Hs,ρ,ag,_,sr,h,λv H1 ay m d As g1 r1 f1 q1=>?_⟩
 walk_at"B"
 cases r with
 |list z s rs=>exact⟨_,rfl,⟨_,s⟩,k _ H1 ay _ g1 (.list (tH s rs)) (by rw[rs.length];exact z) q1⟩
 |_=>exact q1.elim
end
def vf(g:WG)(b:WS)(E:n8):List D->Env->Prop
 |[],ρ=>E.nx ρ
 |x :: xs,ρ=>g x ρ λuS=>b { E with nx:=vf g b E xs,ct:=vf g b E xs,bk:=E.nx } uS
def An(wi:WI)(g:WG)(b:WS):WS:=λE ρ=>wi ρ λds=>vf g b E ds ρ
variable {wi:WI}{g:WG}{b:WS}{body:List Stmt}
theorem mC{iter:Expr}(hp:PassesOwn (model X.prog X.w) X.A X.env X.xe)(hc:X.calm=true)(hi:QI X K tg iter wi)(hg:QG X K tg g)(hb:nX X K L body b)(hs:∀ x,foldedSetIterable iter X.env x=pure x:=by intro _;rfl) :
  QS X K L (.For tg iter body [] pos) (An wi g b):=by
 refine PS.imp (gD' hp hc hi hg hb hs) λD σ H hx=>ir hx λHs ρ ag E sr h k1 k2 k3 k4 kx=>?_;rw[Fw];refine⟨Hs,ρ,ag,_,sr,h,λJ H1 ay ds g1 S hz q1=>?_⟩;refine⟨λi m σ H=>m=ds.length-i/\i<=ds.length/\∃ aw cy cc,aT ay aw/\dE K aw cy σ H cc/\vf g b E (ds.drop i) cy,⟨ds.length,by simp,dy _,ay,ρ,ag,aT.refl _,sr.grow g1,by simpa using q1⟩,?_⟩;rintro i m kB H2 ⟨rfl,hi,aI,gp,fq,s2,ve,q2⟩;by_cases eu:i<ds.length
 ·refine .inr ⟨S.go i aI H2 s2 ve.wf eu,λCH H3=>∃ aw cy cc,aT ay aw/\dE K aw cy CH H3 cc/\vf g b E (ds.drop (i+1)) cy,λCH H3 h3=>⟨ds.length-(i+1),by lia,rfl,eu,h3⟩,λx H3 y=>?_⟩;obtain⟨iA,g3,rd⟩:=S.kM i aI H2 x H3 ds[i] s2 ve.wf (by simp[eu]) y;rw[D4 eu] at q2;have s3:=s2.trans g3.sh;refine⟨iA,gp,fq,ds[i],_,ve.grow g3,rd,q2,λσ4 ku O0 E8 _ q4=>?_⟩;refine⟨iA,ku,O0,_,E8,q4,?_,?_,?_,?_,λn H5 s5=>kx n H5 ((g1.sh.trans s3).trans s5)⟩
  ·exact λVv H5 vi Pl Pm s5 Pp q5=>⟨vi,Pl,Pm,s3.trans s5,Pp,q5⟩
  ·exact λVv H5 vi Pl Pm s5 Pp q5=>k1 Vv H5 vi Pl Pm ((g1.sh.trans s3).trans s5) Pp q5
  ·exact λVv H5 vi Pl Pm s5 Pp q5=>⟨vi,Pl,Pm,s3.trans s5,Pp,q5⟩
  ·exact λv H5 vi m d As s5=>k4 v H5 vi m d As ((g1.sh.trans s3).trans s5)
 ·have e:i=ds.length:=by lia
  subst e;refine .inl ⟨S.stop aI H2 s2 ve.wf,?_⟩;rw[Rp] at q2;exact k1 kB H2 aI gp fq (g1.sh.trans s2) ve q2
theorem iY{g:WG}{b:WS}{E:n8}(xs:List D)(Pv:Nat->Env->Prop){ρ:Env}(h0:Pv 0 ρ)(hs:∀ i x ρ,xs[i]? = some x->Pv i ρ->∀ N:Env->Prop,(∀ cy,Pv (i+1) cy->N cy)->g x ρ λuS=>b { E with nx:=N,ct:=N,bk:=E.nx } uS) (hd:∀ ρ,Pv xs.length ρ->E.nx ρ):vf g b E xs ρ:=by
 have go:∀ (k i:Nat) (ρ:Env),i+k=xs.length->Pv i ρ->vf g b E (xs.drop i) ρ:=by
  intro k
  induction k with
  |zero =>
   intro i ρ e p;have:i=xs.length:=by lia
   subst this;rw[Rp];exact hd ρ p
  |succ k ih =>
   intro i ρ e p;have hi:i<xs.length:=by lia
   rw[D4 hi];exact hs i xs[i] ρ (by simp[hi]) p _ λgp h2=>ih (i+1) gp (by lia) h2
 have:=go xs.length 0 ρ (by exact LG ..) h0;walk_at"aI"
end
def E9:WT:=λ_ Q=>Q true
def Vw(m:Md)(d:D):Prop:=d.flat=true\/m=.ow true
def eN(g:WG)(tc:WT)(te:WE):List D->Env->(List D->Prop)->Prop
 |[],_,k=>k []
 |x :: xs,ρ,k=>g x ρ λuS=>tc uS λb=>if b=true then te uS λm d=>Vw m d/\eN g tc te xs uS (λout=>k (d :: out)) else eN g tc te xs uS k
def DY(tn:Nat)(ix:List Nat)(ρ:Env):Env:=List.replicate tn none++ix.map λj=>(ρ[j]?).join.map Vt
def jB(wi:WI)(g:WG)(tc:WT)(te:WE)(tn:Nat)(ix:List Nat):WE:=λρ Q=>wi ρ λds=>eN g tc te ds (DY tn ix ρ) λout=>Q (.ow true) (.list out)
section
variable {X:Cx}{K:PySem.W.Frag}
theorem jM{Hs H G:Hp}{ρ:Env}{σ:St}{ag:List Addr}(sr:dE K Hs ρ σ H ag)(G':Hp):∀ (ix:List Nat),SR K H G' (ix.map λj=>(ρ[j]?).join.map Vt) (ix.map λj=>(σ[j]?).join) []
 |[]=>.nil
 |j :: ix=>by
  have ih:=jM sr G' ix (G:=G);simp only[fz]
  cases e:ρ[j]? with
  |none=>exact .non ih
  |some o =>
   cases o with
   |none=>exact .non ih
   |some sl =>
    obtain⟨v,e1,r⟩:=sr.sr.get e;rw[e1]
    cases sl with
    |sh d=>exact .sh (Rep.same sr.wf.sub r) ih
    |xc a=>subst r;exact .xc ih
    |ow fl d =>obtain⟨As,_,r,_⟩:=r;exact .sh (r.rep sr.wf.sub λ_ _=>rfl) ih
    |lk a fl d =>obtain⟨As,_,r,_⟩:=r;exact .sh (r.rep sr.wf.sub λ_ _=>rfl) ih
theorem mR{H G:Hp}{ρ:Env}{σ:St}(s:SR K H G ρ σ []):∀ (n:Nat),SR K H G (List.replicate n none++ρ) (List.replicate n none++σ) []
 |0=>s
 |n+1=>.non (mR s n)
theorem SR.heap{Hs H H':Hp}{ρ:Env}{σ:St}(s:SR K Hs H ρ σ []):SR K Hs H' ρ σ []:=s.fA (aT.refl _) λa h=>nomatch h
theorem Ez{Hs H:Hp}{p:Addr}{o:HO}(w:Wf Hs H)(n:Hs p=none)(ho:∀ vs,o≠.tup vs):Wf Hs (upd H p o):=⟨λb u q=>by
  rw[fR (λz=>by subst z;rw[n] at q;cases q)];exact w.sub b u q,λb us q=>by
  by_cases hb:b=p
  ·subst hb;rw[iL] at q;exact absurd (Option.some.inj q) (ho us)
  ·rw[fR hb] at q;exact w.iN b us q⟩
structure CompI(K:PySem.W.Frag)(H1:Hp)(b:Addr)(acc:List D)(ys:List V)(As:List Addr)(Hs:Hp)(ρ:Env)(τ:St)(H:Hp):Prop where
 sm:aT H1 Hs
 sr:dE K Hs ρ τ H []
 eD:H b=some (.lst ys)
 nD:Hs b=none
 ra:aH K Hs H true acc ys As
 nd:(b :: As).Nodup
 own:∀ a∈As,Hs a=none
theorem CompI.grow{H1:Hp}{b:Addr}{acc:List D}{ys:List V}{As:List Addr}{Hs H aw H':Hp}{ρ:Env}{τ:St}(c:CompI K H1 b acc ys As Hs ρ τ H)(g:eS Hs H aw H'):CompI K H1 b acc ys As aw ρ τ H' :=
 ⟨c.sm.trans g.sh,c.sr.grow g,g.all _ _ c.eD,g.nK c.nD (by rw[c.eD];exact λz=>nomatch z),c.ra.grow g.sh g.all,c.nd,λa ha=>g.nK (c.own a ha) (c.ra.own a ha).ne⟩
theorem CompI.push{H1:Hp}{b:Addr}{acc:List D}{ys:List V}{As Bs:List Addr}{Hs H:Hp}{ρ:Env}{τ:St}{m:Md}{d:D}{v:V}(c:CompI K H1 b acc ys As Hs ρ τ H)(r:RM K Hs H m d v Bs)(ok:Vw m d)(nb:Bs.Nodup)(fb:∀ a∈Bs,Hs a=none/\a∉b :: As):∃ fI,CompI K H1 b (acc++[d]) (ys++[v]) fI Hs ρ τ (upd H b (.lst (ys++[v]))):=by
 obtain⟨B,sb,rb⟩:∃ B,B.Sublist Bs/\bS K Hs H true d v B:=by
  rcases ok with hf|rfl
  ·exact⟨[],B1 _,.sh (λ_=>hf) (r.flat c.sr.wf hf)⟩
  ·exact⟨Bs,List.Sublist.refl _,r.1⟩
 obtain⟨na,nA⟩:=ny.mp c.nd;have Tc:=λa ha=>fb a (sb.subset ha);refine⟨As++(B++[]),c.sm,⟨c.sr.sr.heap,Ez c.sr.wf c.nD (λ_ z=>nomatch z),kA,λa h=>nomatch h⟩,iL,c.nD,(c.ra.fA (H':=upd H b (.lst (ys++[v]))) (aT.refl _) λa ha=>fR λz=>na (by subst z;exact ha)).append (.cons (rb.fA (aT.refl _) λa ha=>fR λz=>(Tc a ha).2 (by subst z;exact dv)) .nil),?_,?_⟩
 ·rw[og];refine ny.mpr ⟨λm=>(eI.mp m).elim na λm=>(Tc b m).2 dv,hJ.mpr ⟨nA,sb.nodup nb,λx hx y hy e=>(Tc y hy).2 (e ▸ cK _ hx)⟩⟩
 ·rw[og];exact λa ha=>(eI.mp ha).elim (c.own a) λm=>(Tc a m).1
theorem uF{wi:WI}{g:WG}{tc:WT}{te:WE}{tn:Nat}{ix:List Nat}{σ:St}{H:Hp}{Qv:VK}(h:sd K (jB wi g tc te tn ix) σ H Qv):qO (Ta K wi) (Vu K g) (A8 K tc) (sd K te) tn ix σ H Qv:=by
 obtain⟨Hs,ρ,ag,Q,sr,h,f⟩:=h;rw[xW];walk_at"bh";have st:CompI K H1 b [] [] [] H1 (DY tn ix ρ) (eQ tn ix σ) (upd H1 b (.lst [])):=by
  walk_at"t";by_cases ha:a=b
  ·subst ha;rw[iL] at e;cases e
  ·rw[fR ha] at e;exact e
 refine⟨λi m τ H2=>m=ds.length-i/\i<=ds.length/\∃ aI gp acc ys As,CompI K H1 b acc ys As aI gp τ H2/\acc.length<=i/\eN g tc te (ds.drop i) gp (λout=>Q (.ow true) (.list (acc++out))), ⟨ds.length,by simp,dy _,H1,_,[],[],[],st,bE _,by simpa using q1⟩,?_⟩
 rintro i m τ H2 ⟨rfl,hi,aI,gp,acc,ys,As,c,la,q2⟩;by_cases eu:i<ds.length
 ·refine .inr ⟨S.go i aI H2 c.sm c.sr.wf eu,
   λvj v H4=>∃ yk ku d,CompI K H1 b acc ys As yk ku vj H4/\(∃ fI,CompI K H1 b (acc++[d]) (ys++[v]) fI yk ku vj (upd H4 b (.lst (ys++[v]))))/\eN g tc te (ds.drop (i+1)) ku (λout=>Q (.ow true) (.list (acc++d :: out))),
   λvj H3=>∃ iA Bn,CompI K H1 b acc ys As iA Bn vj H3/\eN g tc te (ds.drop (i+1)) Bn (λout=>Q (.ow true) (.list (acc++out))),?_,?_,?_⟩
  ·rintro vj v H4 ⟨yk,ku,d,c4,⟨fI,c5⟩,q4⟩;have Vx:=c4.ra.length;walk_at"I"
  ·rintro vj H3 ⟨iA,Bn,c3,q3⟩;walk_at"aN"
  ·intro x H3 y;walk_at"aH";rw[D4 eu] at q2;have c3:=c.grow g3;walk_at"aU";have t4:O0=[]:=xcj.mpr λa ha=>nomatch m4 a ha;subst t4;have c4:CompI K H1 b acc ys As iA ku Vy H3:=⟨c3.sm,E8,c3.eD,c3.nD,c3.ra,c3.nd,c3.own⟩
   refine⟨iA,ku,[],_,E8,q4,λk H5 vi g5 q5=>?_⟩;have c5:=c4.grow g5
   cases k with
   |false=>exact⟨vi,ku,c5,q5⟩
   |true =>
    refine⟨vi,ku,[],_,c5.sr,q5,λv H6 Vz m6 d6 As6 g6 r6 f6 q6=>?_⟩;have c6:=c5.grow g6;walk_at"ak";rcases dc.mp m with rfl|m
    ·have:=(f6.2 _ ha).2;rw[c5.eD] at this;cases this
    ·exact(c5.ra.own a m).ne (f6.2 a ha).2
 ·have e:i=ds.length:=by lia
  subst e;refine .inl ⟨S.stop aI H2 c.sm c.sr.wf,?_⟩;rw[Rp] at q2;have q2:Q (.ow true) (.list (acc++[])):=q2;rw[og] at q2;have Vx:=c.ra.length;walk_at"Y"
  obtain⟨fI,r',fr⟩:=qZ g1.wf c.sm c.sr.wf rm c.nd λa ha=>(dc.mp ha).elim (λz=>z ▸ c.nD) (c.own a);walk_at"ah"
theorem tS.imp{ifs:List Expr}{t t':TT}(h:tS X ifs t)(i:∀ σ H Q,t' σ H Q->t σ H Q):tS X ifs t':=λpins s σ H Q I q=>h pins s σ H Q I (i σ H Q q)
abbrev Pw(X:Cx)(K:PySem.W.Frag)(ifs:List Expr)(t:WT):Prop:=tS X ifs (A8 K t)
theorem qW:Pw X K [] E9:=tS.imp Hh λσ H Qv hx=>iq hx λHs ρ ag Q sr h k=>k true H Hs (eS.refl sr.wf) h
theorem mL{c:Expr}{t:WT}(h:QT X K c t):Pw X K [c] t:=Gn h
theorem mK{tg iter elt:Expr}{ifs:List Expr}{scope:Scope}{pos:Pos}{wi:WI}{g:WG}{tc:WT}{te:WE}{tn cn:List Str}{ix:List Nat}(hc:X.calm=true)(hi:Tb X K tg iter wi)(O:cG X scope tn cn ix)(hg:∀ C fp cf cq,QG (aJ X scope C (tn++cn) fp cf cq) K tg g) (mI:∀ C fp cf cq,Pw (aJ X scope C (tn++cn) fp cf cq) K ifs tc) (he:∀ C fp cf cq,QE (aJ X scope C (tn++cn) fp cf cq) K elt te)(hs:∀ x,foldedSetIterable iter X.env x=pure x:=by intro _;rfl):QE X K (.ListComp elt [⟨tg,iter,ifs,0⟩] scope pos) (jB wi g tc te tn.length ix) :=
 PE.imp (G_ hc hi O hg mI he hs) λσ H Qv h=>uF h
end
theorem dR{g:WG}{tc:WT}{te:WE}(p:D->Bool)(f:D->D)(Iv:Env->Prop):∀ (xs:List D) (ρ:Env) (k:List D->Prop),Iv ρ -> (∀ x∈xs,∀ ρ,Iv ρ->∀ N1:Env->Prop,∀ N2:Env->D->Prop,(∀ cy,Iv cy->p x=false->N1 cy)->(∀ cy,Iv cy->p x=true->N2 cy (f x))->g x ρ λuS=>tc uS λb=>if b=true then te uS λm d=>Vw m d/\N2 uS d else N1 uS) ->
  k ((xs.filter p).map f)->eN g tc te xs ρ k
 |[],_,k,_,_,h=>h
 |x :: xs,ρ,k,iv,hs,h=>by
  refine hs x dv ρ iv _ _ (λcy VA hp=>?_) (λcy VA hp=>?_)
  ·exact dR p f Iv xs cy k VA (λy hy=>hs y (cK _ hy)) (by simpa[hp] using h)
  ·exact dR p f Iv xs cy _ VA (λy hy=>hs y (cK _ hy)) (by simpa[hp] using h)
def Upd(K:PySem.W.Frag)(Hs H:Hp)(σ:St)(fl:Bool)(v:V)(up:Bool->D->Env)(fI:List Addr):Prop:=∀ aI H2 fl2 d2 fN,aT Hs aI->Wf aI H2->(∀ a,Hs a=none->H a≠none->aI a=none)->(fl2=true->fl=true) ->
  bS K aI H2 fl2 d2 v fN->fN≠[]->fN.Nodup->(∀ a∈fN,aI a=none/\(a∈fI\/H a=none))->(∀ a,H a≠none->a∉fI->H2 a=H a)->∃ fq,dE K aI (up fl2 d2) σ H2 fq
structure Place(K:PySem.W.Frag)(Hs H:Hp)(σ:St)(fl:Bool)(d:D)(v:V)(up:Bool->D->Env):Prop where
 ex:∃ fI,bS K Hs H fl d v fI/\fI≠[]/\fI.Nodup/\(∀ a∈fI,Hs a=none)/\Upd K Hs H σ fl v up fI
theorem Upd.node{K:PySem.W.Frag}{Hs H aI H2:Hp}{σ:St}{fl fl2:Bool}{up:Bool->D->Env}{a:Addr}{A C:List Addr}{o:HO}{d2:D}(k:Upd K Hs H σ fl (.ref a) up (a :: A))(g:eS Hs H aI H2)(own:∀ x∈a :: A,Hs x=none/\H x≠none)(ho:∀ vs,o≠.tup vs)(hf:fl2=true->fl=true)(r:bS K aI (upd H2 a o) fl2 d2 (.ref a) (a :: C)) (nC:C.Nodup) (Td:a∉C) (hC:∀ x∈C,x∈A\/(aI x=none/\H x=none)):∃ fq,dE K aI (up fl2 d2) σ (upd H2 a o) fq:=by
 have hn:∀ x∈a :: A,aI x=none:=λx hx=>g.nK (own x hx).1 (own x hx).2;refine k aI _ fl2 d2 (a :: C) g.sh (Ez g.wf (hn a dv) ho) (λb h1 h2=>g.nK h1 h2) hf r (K2 _ _) (ny.mpr ⟨Td,nC⟩) (λb hb=>?_) λb h1 h2=>?_
 ·rcases dc.mp hb with rfl|hb
  ·exact⟨hn _ dv,.inl dv⟩
  ·exact(hC b hb).elim (λq=>⟨hn b (cK _ q),.inl (cK _ q)⟩) λq=>⟨q.1,.inr q.2⟩
 ·rw[fR λz=>h2 (by subst z;exact dv)]
  cases q:H b with
  |none=>exact absurd q h1
  |some o=>exact g.all b o q
abbrev WP:=Env->(Bool->D->(Bool->D->Env)->Prop)->Prop
def tpP(K:PySem.W.Frag)(t:WP):TE:=λσ H Qv=>∃ Hs ρ ag Q,dE K Hs ρ σ H ag/\t ρ Q/\∀ v H' aw fl d up,eS Hs H aw H'->Place K aw H' σ fl d v up->Q fl d up->Qv v H'
abbrev QP(X:Cx)(K:PySem.W.Frag)(e:Expr)(t:WP):Prop:=PE X e (tpP K t)
section
variable {K:PySem.W.Frag}{Hs H:Hp}{σ:St}{fl:Bool}{d:D}{v:V}
theorem bS.ne2:(∀ {d:D} {v:V} {As:List Addr},bS K Hs H true d v As->d.flat=false->As≠[])/\∀ {ds:List D} {vs:List V} {As:List Addr},aH K Hs H true ds vs As->cS ds=false->As≠[] :=
 bS.ind (m1:=λd _ As=>d.flat=false->As≠[]) (m2:=λds _ As=>cS ds=false->As≠[]) (λ_ _ f _ h=>by rw[f rfl] at h;cases h) (λ_ _ _ _ _ _ _ _ _=>K2 _ _) (λ_ _ _ _ _ _ n _ ih _=>ih n) (λ_ _ _ _ _ _ _ _ _=>K2 _ _) (λ_ _ _ _ _ _ _ _ _=>K2 _ _) (λh=>by simp[cS] at h) λd _ _ _ _ _ _ _ i1 i2 h=>by
   cases e:d.flat with
   |false=>exact λz=>i1 e (KP.mp z).1
   |true =>simp only[cS,e,EB] at h;exact λz=>i2 h (KP.mp z).2
theorem bS.ne{d:D}{v:V}{As:List Addr}(r:bS K Hs H true d v As)(h:d.flat=false):As≠[]:=bS.ne2.1 r h
def DT(i:Nat):WP:=λρ Q=>match ρ[i]? with
 |some (some (.ow fl d))=>Q fl d λfl2 d2=>ρ.set i (some (.ow fl2 d2))
 |_=>False
theorem SR.put{Hs H:Hp}{fl:Bool}{d:D}{ρ:Env}{σ:St}{ag:List Addr}(i:Nat)(s:SR K Hs H ρ σ ag):ρ[i]? = some (some (.ow fl d))->ag.Nodup ->
  ∃ (v:V) (As cc:List Addr),σ[i]? = some (some v)/\As≠[]/\bS K Hs H fl d v As/\As.Sublist ag/\∀ aI H2 fl2 d2 fN,aT Hs aI->bS K aI H2 fl2 d2 v fN->fN≠[]->fN.Nodup->(∀ a∈fN,a∈ag->a∈As)->(∀ a∈ag,a∉As->H2 a=H a) ->
   ∃ fq,fq.Nodup/\(∀ a∈fq,a∈ag\/a∈fN)/\SR K aI H2 (ρ.set i (some (.ow fl2 d2))) σ fq:=by
 induction s generalizing i with
 |nil=>intro e;simp at e
 |@non ρ σ ag o q ih =>
  intro e n
  cases i with
  |zero=>simp at e
  |succ i =>obtain⟨v,As,t,a,b,c,d,g⟩:=ih i (by simpa using e) n;refine⟨v,As,t,by simpa using a,b,c,d,λaI H2 fl2 d2 fN s2 r2 ne2 mh dj st=>?_⟩;obtain⟨t2,x,y,z⟩:=g aI H2 fl2 d2 fN s2 r2 ne2 mh dj st;exact⟨t2,x,y,.non z⟩
 |sh r q ih =>
  intro e n
  cases i with
  |zero=>simp at e
  |succ i =>obtain⟨v,As,t,a,b,c,d,g⟩:=ih i (by simpa using e) n;refine⟨v,As,t,by simpa using a,b,c,d,λaI H2 fl2 d2 fN s2 r2 ne2 mh dj st=>?_⟩;obtain⟨t2,x,y,z⟩:=g aI H2 fl2 d2 fN s2 r2 ne2 mh dj st;exact⟨t2,x,y,.sh (r.same s2) z⟩
 |xc q ih =>
  intro e n
  cases i with
  |zero=>simp at e
  |succ i =>obtain⟨v,As,t,a,b,c,d,g⟩:=ih i (by simpa using e) n;refine⟨v,As,t,by simpa using a,b,c,d,λaI H2 fl2 d2 fN s2 r2 ne2 mh dj st=>?_⟩;obtain⟨t2,x,y,z⟩:=g aI H2 fl2 d2 fN s2 r2 ne2 mh dj st;exact⟨t2,x,y,.xc z⟩
 |@ow ρ σ t2 B fl0 d0 v ne r q ih =>
  intro e n;walk_at"n"
  cases i with
  |zero =>
   simp at e;obtain⟨rfl,rfl⟩:=e;refine⟨v,B,t2,rfl,ne,r,FK _ _,λaI H2 fl2 d2 fN s2 r2 ne2 mh dj st=>⟨fN++t2,hJ.mpr ⟨mh,n2,λa ha b hb e=>?_⟩,λa h=>?_,.ow ne2 r2 (q.fA s2 λa h=>st a (dQ _ h) λz=>n3 a z a h rfl)⟩⟩
   ·subst e;exact n3 a (dj a ha (dQ _ hb)) a hb rfl
   ·exact(eI.mp h).symm.imp (λz=>dQ _ z) id
  |succ i =>
   obtain⟨v,As,t,a,b,c,d,g⟩:=ih i (by simpa using e) n2;have hB:∀ x∈B,x∉As:=λx hx m=>n3 x hx x (d.subset m) rfl;walk_at"T";obtain⟨t2,x,y,z⟩:=g aI H2 fl2 d2 fN s2 r2 ne2 mh (λa ha m=>dj a ha (dQ _ m)) λa ha m=>st a (dQ _ ha) m;refine⟨B++t2,hJ.mpr ⟨n1,x,λa ha b hb e=>?_⟩,λa h=>?_,.ow ne (r.fA s2 λa h=>st a (gE _ h) (hB a h)) z⟩
   ·subst e;rcases y a hb with w|w
    ·exact n3 a ha a w rfl
    ·exact hB a ha (dj a w (gE _ ha))
   ·rcases eI.mp h with w|w
    ·exact .inl (gE _ w)
    ·exact(y a w).imp (λw=>dQ _ w) id
 |@lk ρ σ t2 B a0 fl0 d0 ne r q ih =>
  intro e n;walk_at"n"
  cases i with
  |zero=>simp at e
  |succ i =>
   obtain⟨v,As,t,a,b,c,d,g⟩:=ih i (by simpa using e) n2;have hB:∀ x∈B,x∉As:=λx hx m=>n3 x hx x (d.subset m) rfl;walk_at"T";obtain⟨t2,x,y,z⟩:=g aI H2 fl2 d2 fN s2 r2 ne2 mh (λa ha m=>dj a ha (dQ _ m)) λa ha m=>st a (dQ _ ha) m;refine⟨B++t2,hJ.mpr ⟨n1,x,λa ha b hb e=>?_⟩,λa h=>?_,.lk ne (r.fA s2 λa h=>st a (gE _ h) (hB a h)) z⟩
   ·subst e;rcases y a hb with w|w
    ·exact n3 a ha a w rfl
    ·exact hB a ha (dj a w (gE _ ha))
   ·rcases eI.mp h with w|w
    ·exact .inl (gE _ w)
    ·exact(y a w).imp (λw=>dQ _ w) id
theorem ou{X:Cx}{i:Nat}{e:Expr}(h:PE X e (AQ i)):QP X K e (DT i):=PE.imp h λσ H Qv hx=>iq hx λHs ρ ag Q sr h f=>by
 unfold DT at h;split at h
 ·rename_i fl d e1;obtain⟨v,As,t,e2,ne,r,sb,g⟩:=SR.put i sr.sr e1 sr.qE;refine⟨v,e2,f v H Hs fl d _ (eS.refl sr.wf) ⟨As,r,ne,sb.nodup sr.qE,λa h=>sr.own a (sb.subset h),λaI H2 fl2 d2 fN s2 w2 n2 _ r2 ne2 mh o2 st=>?_⟩ h⟩;obtain⟨t2,x,y,z⟩:=g aI H2 fl2 d2 fN s2 r2 ne2 mh (λa ha m=>(o2 a ha).2.elim id λq=>absurd q (sr.sr.own a m).ne) λa ha m=>st a (sr.sr.own a ha).ne m;exact⟨t2,z,w2,x,λa h=>(y a h).elim (λq=>n2 a (sr.own a q) (sr.sr.own a q).ne) λq=>(o2 a q).1⟩
 ·exact h.elim
theorem bS.wk{fl fl2:Bool}{d:D}{v:V}{As:List Addr}(h:fl2=true->fl=true)(r:bS K Hs H fl d v As):bS K Hs H fl2 d v As:=by
 cases fl2 with
 |false=>exact r.SX
 |true=>rw[h rfl] at r;exact r
theorem aH.wk{fl fl2:Bool}{d:List D}{v:List V}{As:List Addr}(h:fl2=true->fl=true)(r:aH K Hs H fl d v As):aH K Hs H fl2 d v As:=by
 cases fl2 with
 |false=>exact r.SX
 |true=>rw[h rfl] at r;exact r
theorem aH.at{fl:Bool}{ds:List D}{vs:List V}{As:List Addr}{j:Nat}{d:D}(r:aH K Hs H fl ds vs As)(e:ds[j]? = some d)(n:As.Nodup) :
  ∃ (v:V) (B:List Addr),vs[j]? = some v/\bS K Hs H fl d v B/\B.Sublist As/\∀ aI H2 fl2 d2 B2,aT Hs aI->(fl2=true->fl=true)->bS K aI H2 fl2 d2 v B2->B2.Nodup->(∀ a∈B2,a∈As->a∈B)->(∀ a∈As,a∉B->H2 a=H a) ->
   ∃ fN,fN.Nodup/\(∀ a∈fN,(a∈As/\a∉B)\/a∈B2)/\(B2≠[]->fN≠[])/\aH K aI H2 fl2 (ds.set j d2) vs fN:=by
 induction ds generalizing vs As j with
 |nil=>simp at e
 |cons x ds ih =>
  obtain⟨v,us,A,B,rfl,rfl,r,rs⟩:=r.c;walk_at"n"
  cases j with
  |zero =>
   simp at e;subst e;refine⟨v,A,rfl,r,FK _ _,λaI H2 fl2 d2 B2 s2 hf r2 mh dj st=>⟨B2++B,hJ.mpr ⟨mh,n2,λa ha b hb e=>?_⟩,λa h=>?_,λne z=>ne (KP.mp z).1,.cons r2 ((rs.wk hf).fA s2 λa h=>st a (dQ _ h) λz=>n3 a z a h rfl)⟩⟩
   ·subst e;exact n3 a (dj a ha (dQ _ hb)) a hb rfl
   ·rcases eI.mp h with w|w
    ·exact .inr w
    ·exact .inl ⟨dQ _ w,λz=>n3 a z a w rfl⟩
  |succ j =>
   obtain⟨v,C,a,b,c,g⟩:=ih (j:=j) rs (by simpa using e) n2;have hA:∀ x∈A,x∉C:=λx hx m=>n3 x hx x (c.subset m) rfl;refine⟨v,C,by simpa using a,b,c.trans (pV _ _),λaI H2 fl2 d2 B2 s2 hf r2 mh dj st=>?_⟩;obtain⟨fN,x,y,w,z⟩:=g aI H2 fl2 d2 B2 s2 hf r2 mh (λa ha m=>dj a ha (dQ _ m)) λa ha m=>st a (dQ _ ha) m;refine⟨A++fN,hJ.mpr ⟨n1,x,λa ha b hb e=>?_⟩,λa h=>?_,λne q=>w ne (KP.mp q).2,.cons ((r.wk hf).fA s2 λa h=>st a (gE _ h) (hA a h)) z⟩
   ·subst e;rcases y a hb with q|q
    ·exact n3 a ha a q.1 rfl
    ·exact hA a ha (dj a q (gE _ ha))
   ·rcases eI.mp h with q|q
    ·exact .inl ⟨gE _ q,hA a q⟩
    ·exact(y a q).imp (λq=>⟨dQ _ q.1,q.2⟩) id
theorem JP{α:Type}{xs:List α}{i:Int}{x:α}(h:fv xs i=some x):∃ j,x4 xs.length i=some j/\xs[j]? = some x:=by
 unfold L2.fv at h
 cases e:x4 xs.length i with
 |none=>rw[e] at h;cases h
 |some j=>rw[e] at h;exact⟨j,rfl,h⟩
theorem Mi{α:Type}{xs:List α}{i:Int}{j:Nat}{x:α}(h:x4 xs.length i=some j)(e:xs[j]? = some x):fv xs i=some x:=by unfold L2.fv;rw[h];exact e
end
section
variable {X:Cx}{K:PySem.W.Frag}{e:Expr}{p:WP}{te:WE}{apos cw pos:Pos}
def qp(fl:Bool)(m:Md)(d:D):Option Bool:=match m with
 |.sh=>some (fl && d.flat)
 |.ow b=>some (fl && b)
 |.bo=>bif d.flat then some fl else none
def IL(p:WP)(te:WE):WS:=λE ρ=>p ρ λfl d up=>match d with
 |.list xs=>te ρ λm x=>xs.length<sizeLine/\match qp fl m x with
  |some fl2=>E.nx (up fl2 (.list (xs++[x])))
  |none=>False
 |_=>False
theorem CJ{Hs H:Hp}{fl fl2:Bool}{m:Md}{d:D}{v:V}{As:List Addr}(w:Wf Hs H)(r:RM K Hs H m d v As)(h:qp fl m d=some fl2):(fl2=true->fl=true)/\∃ B,B.Sublist As/\bS K Hs H fl2 d v B:=by
 cases m with
 |sh =>cases h;exact⟨λz=>by cases fl<;>simp_all,[],B1 _,.sh (λz=>by cases fl<;>simp_all) r.2⟩
 |ow b =>cases h;refine⟨λz=>by cases fl<;>simp_all,As,List.Sublist.refl _,r.1.wk λz=>by cases fl<;>simp_all⟩
 |bo =>
  cases hf:d.flat with
  |true =>simp only[qp,hf,cond_true,Option.some.injEq] at h;subst h;exact⟨id,[],B1 _,.sh (λ_=>hf) (r.flat w hf)⟩
  |false=>simp[qp,hf] at h
theorem Place.put{ay H1 aI H2:Hp}{σ:St}{fl:Bool}{xs:List D}{v:V}{up:Bool->D->Env}(pl:Place K ay H1 σ fl (.list xs) v up)(g:eS ay H1 aI H2) :
  ∃ a vs A,v=.ref a/\H2 a=some (.lst vs)/\H1 a=some (.lst vs)/\aH K aI H2 fl xs vs A/\(a :: A).Nodup/\(∀ x∈a :: A,aI x=none/\H1 x≠none) /\
   ∀ fl2 ys ws C,(fl2=true->fl=true)->aH K aI H2 fl2 ys ws C->ws.length<=sizeLine->C.Nodup->a∉C->(∀ x∈C,x∈A\/(aI x=none/\H1 x=none))->∃ fq,dE K aI (up fl2 (.list ys)) σ (upd H2 a (.lst ws)) fq:=by
 obtain⟨fI,r,ne,nd,own,k⟩:=pl.ex
 cases r with
 |sh hf _=>exact absurd rfl ne
 |@list a vs _ A hz e rs =>
  have e2:=g.all _ _ e;have PC:=rs.grow g.sh g.all;have hw:∀ x∈a :: A,ay x=none/\H1 x≠none:=λx hx=>⟨own x hx,by
   rcases dc.mp hx with rfl|hx
   ·rw[e];exact λz=>nomatch z
   ·exact(rs.own x hx).ne⟩
  exact⟨a,vs,A,rfl,e2,e,PC,nd,λx hx=>⟨g.nK (hw x hx).1 (hw x hx).2,(hw x hx).2⟩,λfl2 ys ws C hf pd hz ndC Td hC=>k.node g hw (λ_ z=>by cases z) hf (.list hz iL (pd.fA (aT.refl _) λb hb=>fR λz=>Td (by subst z;exact hb))) ndC Td hC⟩
theorem Place.isL{ay H1:Hp}{σ:St}{fl:Bool}{xs:List D}{v:V}{up:Bool->D->Env}(w:Wf ay H1)(pl:Place K ay H1 σ fl (.list xs) v up):∃ a vs,v=.ref a/\eJ K H1 a vs:=by
 obtain⟨fI,r,ne,nd,own,k⟩:=pl.ex
 cases r with
 |sh hf _=>exact absurd rfl ne
 |list hz e rs=>exact⟨_,_,rfl,.inl (.inl e)⟩
theorem zq (ho:QP X K e p) {e2:Expr} (he:QE X K e2 te) (hK:X.K=K:=by rfl) (hs:swapsWith (.Call (.Attribute e "append" apos) [e2] [] cw) none pos.line X.env=pure false:=by rfl) (tN:attributeBase e "append" X.env (eval e X.env)=eval e X.env:=by rfl) (pe:((backTo cw (starEach [e2] X.env)).all (λx=>!x.1) && (backToKw cw (keywordEach [] X.env)).all (λx=>x.1.isSome)
   && decide ([e2].length+([]:List Keyword).length+(if ([]:List Keyword).isEmpty then 0 else 1)<30))=true:=by rfl)
  (hline:(apos.endLine == cw.line)=true:=by rfl) (pS:starEach (e2 :: []) X.env=(false,eval e2 X.env) :: starEach [] X.env:=by rfl) (tP:(backTo cw (starEach [] X.env)).any (·.1)=false:=by rfl) :
  QS X K L (.Expr (.Call (.Attribute e "append" apos) [e2] [] cw) pos) (IL p te):=by
 subst hK;refine PS.imp (bq' (HG PySem.F.plainAttrs_list PySem.F.slot_list_append PySem.F.type_list_append Sf ho (mG he rU pS) tN pe hline pS tP) hs) λD σ H hx=>iM hx λHs ρ ag E sr h k1 k2 k3 k4=>?_;refine⟨Hs,ρ,ag,_,sr,h,λv H1 ay fl d up g1 p1 q1=>?_⟩
 cases d with
 |list xs =>
  obtain⟨a1,vs1,e1,s1⟩:=p1.isL g1.wf;subst e1;refine⟨.inl ⟨rfl,_,s1⟩,ay,ρ,ag,_,sr.grow g1,q1,λy H2 aI m x As g2 r2 f2 q2=>?_⟩;obtain⟨hz,q2⟩:=q2;obtain⟨a,vs,A,ea,e2,_,rs,nd,hn,k⟩:=p1.put g2;cases ea;have hl:=rs.length;refine⟨a1,vs,y,rfl,rfl,e2,by lia,?_⟩
  cases hp:qp fl m x with
  |none=>rw[hp] at q2;exact q2.elim
  |some fl2 =>
   rw[hp] at q2;obtain⟨hf,B,sb,rb⟩:=CJ g2.wf r2 hp;obtain⟨na,nA⟩:=ny.mp nd;have fB:∀ x∈B,aI x=none/\H1 x=none:=λx hx=>f2.2 x (sb.subset hx);have c1:(A++(B++[])).Nodup:=by rw[og];exact hJ.mpr ⟨nA,sb.nodup f2.1,λx hx z hz e=>by subst e;exact(hn x (cK _ hx)).2 (fB x hz).2⟩
   have c2:a1∉A++(B++[]):=by
    rw[og];intro m;rcases eI.mp m with m|m
    ·exact na m
    ·exact(hn _ dv).2 (fB _ m).2
   have c3:∀ x∈A++(B++[]),x∈A\/(aI x=none/\H1 x=none):=by rw[og];intro x hx;exact(eI.mp hx).imp id λz=>fB x z
   obtain⟨fq,ve⟩:=k fl2 (xs++[x]) (vs++[y]) (A++(B++[])) hf ((rs.wk hf).append (.cons rb .nil)) (by rw[kK];simp;lia) c1 c2 c3;exact k1 σ _ aI _ fq (g1.sh.trans g2.sh) ve q2
 |_=>exact q1.elim
def Bm:WE:=λ_ Q=>Q (.ow true) (.dK [])
def zA:WE:=λ_ Q=>Q (.ow true) (.dT [])
theorem Fl:QE X K (.Dict [] [] pos) Bm:=PE.imp iY' λσ H Qv hx=>iq hx λHs ρ ag Q sr h f=>λa ha =>
 f _ _ Hs (.ow true) (.dK []) [a] (IG sr.wf ha λ_ z=>nomatch z) ⟨.dK (vs:=[]) ⟨dy _,λp hp=>nomatch hp⟩ iL .nil,by simp⟩ ⟨by simp,λb hb=>by
  obtain rfl:b=a:=by simpa using hb
  exact⟨sr.wf.sub.free ha,ha⟩⟩ h
theorem GK:QE X K (.Dict [] [] pos) zA:=PE.imp iZ' λσ H Qv hx=>iq hx λHs ρ ag Q sr h f=>λa ha =>
 f _ _ Hs (.ow true) (.dT []) [a] (IG sr.wf ha λ_ z=>nomatch z) ⟨.dT (vs:=[]) ⟨dy _,λp hp=>nomatch hp⟩ iL .nil,by simp⟩ ⟨by simp,λb hb=>by
  obtain rfl:b=a:=by simpa using hb
  exact⟨sr.wf.sub.free ha,ha⟩⟩ h
section
variable {κ:Type}[DecidableEq κ]
theorem Bh{Hs H:Hp}{fl:Bool}{k:κ}{d:D}{v:V}(r:bS K Hs H fl d v []){ae:List (κ × D)}{vs:List V}{As:List Addr}(qs:aH K Hs H fl (ae.map (·.2)) vs As):∃ ws Bs,Bs.Sublist As /\
  aH K Hs H fl ((ae.map λkv=>if kv.1=k then (kv.1,d) else kv).map (·.2)) ws Bs/\((ae.map (·.1)).zip vs).map (λkv=>if kv.1=k then (kv.1,v) else kv)=(((ae.map λkv=>if kv.1=k then (kv.1,d) else kv)).map (·.1)).zip ws:=by
 induction ae generalizing vs As with
 |nil=>exact⟨[],[],B1 _,.nil,rfl⟩
 |cons p ae ih =>
  obtain⟨u,vs,A,B,rfl,rfl,q,qs⟩:=aH.c (d:=p.2) qs;obtain⟨ws,Bs,sb,rs,e⟩:=ih qs;by_cases h:p.1=k
  ·refine⟨v :: ws,[]++Bs,by simpa using sb.trans (pV _ _),?_,?_⟩
   ·simp only[fz,h,if_true];exact .cons r rs
   ·simp only[fz,FR,h,if_true,e]
  ·refine⟨u :: ws,A++Bs,sb.append_left _,?_,?_⟩
   ·simp only[fz,h,if_false];exact .cons q rs
   ·simp only[fz,FR,h,if_false,e]
theorem CG{Hs H:Hp}{fl:Bool}{k:κ}{d:D}{v:V}(r:bS K Hs H fl d v []){ae:List (κ × D)}{vs:List V}{As:List Addr}(q:aH K Hs H fl (ae.map (·.2)) vs As) :
  ∃ ws Bs,Bs.Sublist As/\aH K Hs H fl ((kG ae k d).map (·.2)) ws Bs/\putK ((ae.map (·.1)).zip vs) k v=((kG ae k d).map (·.1)).zip ws:=by
 have hl:=q.length;rw[cE] at hl;unfold putK kG;rw[GF hl]
 cases h:ae.any λkv=>decide (kv.1=k) with
 |true =>simp only[if_true];exact Bh r q
 |false =>
  walk_at"aT";refine⟨vs++[v],As++([]++[]),by simp,?_,?_⟩
  ·rw[D8];exact q.append (.cons r .nil)
  ·rw[D8,List.zip_append (by rw[cE];exact hl)];rfl
theorem Al{Hs H:Hp}{fl:Bool}{k:κ}{d:D}{v:V}(r:Rep K Hs d v)(hd:d.flat=true){ae:List (κ × D)}{vs:List V}{As:List Addr}(q:aH K Hs H fl (ae.map (·.2)) vs As) :
  ∃ ws Bs,Bs.Sublist As/\aH K Hs H fl ((kG ae k d).map (·.2)) ws Bs/\putK ((ae.map (·.1)).zip vs) k v=((kG ae k d).map (·.1)).zip ws:=CG (.sh (λ_=>hd) r) q
theorem l_{β:Type}(ae:List (κ × β))(k:κ)(v:β):(kG ae k v).length<=ae.length+1:=by
 unfold kG;split
 ·rw[cE];exact xv _ _
 ·simp
theorem rG{β:Type}{ae:List (κ × β)}{k:κ}{v:β}{p:κ × β}(h:p∈kG ae k v):p.1=k\/p.1∈ae.map (·.1):=by
 unfold kG at h;split at h
 ·obtain⟨q,hq,e⟩:=de.mp h;by_cases hk:q.1=k
  ·rw[if_pos hk] at e;subst e;exact .inl hk
  ·rw[if_neg hk] at e;subst e;exact .inr (de.mpr ⟨q,hq,rfl⟩)
 ·rcases eI.mp h with h|h
  ·exact .inr (de.mpr ⟨p,h,rfl⟩)
  ·have:p=(k,v):=by simpa using h
   subst this;exact .inl rfl
end
def zN(p:WP)(tk tv:WE):WS:=λE ρ=>tv ρ λ_ x=>p ρ λfl d up=>tk ρ λ_ y=>x.flat=true/\match d with
 |.dK ae=>∃ k,y.key1=some k/\ae.length<sizeLine/\E.nx (up fl (.dK (kG ae k x)))
 |.dT ae=>match y with
  |.tup ys=>∃ ks,iC ys=some ks/\ae.length<sizeLine/\E.nx (up fl (.dT (kG ae ks x)))
  |_=>False
 |_=>False
theorem Cq{H:Hp}{d:D}{v:V}{k:Key}(r:Rep K H d v)(h:d.key1=some k):yb k=true:=by
 cases r<;>simp[D.key1] at h<;>subst h
 ·rfl
 ·rename_i hz;simp[yb,hz]
theorem Eb{H:Hp}{ds:List D}{vs:List V}{ks:List Key}(r:bp K H ds vs)(h:iC ds=some ks):ks.length=ds.length/\∀ k∈ks,yb k=true:=by
 induction ds generalizing vs ks with
 |nil=>simp[iC] at h;subst h;exact⟨rfl,λk hk=>nomatch hk⟩
 |cons d ds ih =>
  obtain⟨u,us,rfl,r,rs⟩:=r.c;unfold iC at h
  cases e1:d.key1 with
  |none=>rw[e1] at h;simp at h
  |some k =>
   cases e2:iC ds with
   |none=>rw[e1,e2] at h;simp at h
   |some dn =>
    rw[e1,e2] at h;simp at h;subst h;obtain⟨a,b⟩:=ih rs e2;refine⟨by simp[a],λj hj=>?_⟩;rcases dc.mp hj with rfl|hj
    ·exact Cq r e1
    ·exact b j hj
theorem Ac{a b c:Expr}{tk tv:WE}{pos':Pos}(hu:X.A.units+64<cLine)(ho:QP X K a p)(hi:QE X K b tk)(hv:QE X K c tv)(hs:swapsWith c (some (.Subscript a b pos')) pos.line X.env=pure false:=by rfl) :
  QS X K L (.Assign [.Subscript a b pos'] c pos) (zN p tk tv):=by
 refine PS.imp (iT' (by lia) ho hi hv hs) λD σ H hx=>iM hx λHs ρ ag E sr h k1 k2 k3 k4=>?_;refine⟨Hs,ρ,ag,_,sr,h,λv H1 ay m1 x As1 g1 r1 f1 q1=>⟨ay,ρ,ag,_,sr.grow g1,q1,λu H2 aI fl d up g2 p2 q2=>⟨aI,ρ,ag,_,(sr.grow g1).grow g2,q2,λy H3 iA m3 yd As3 g3 r3 f3 q3=>?_⟩⟩⟩;obtain⟨hx,q3⟩:=q3;have rx:Rep K iA x v:=((r1.grow g2).grow g3).flat g3.wf hx;have ry:=r3.rep g3.wf;obtain⟨fI,r,ne,nd,own,k⟩:=p2.ex;have sm:aT Hs iA:=(g1.sh.trans g2.sh).trans g3.sh;have lv:∀ x∈fI,aI x=none/\H2 x≠none:=λx hx=>⟨own x hx,(r.own x hx).ne⟩
 cases r with
 |sh hf _=>exact absurd rfl ne
 |@dK a0 vs ae A kk e rs =>
  obtain⟨key,hk,hz,q⟩:=q3;have ey:=ry.key hk;subst ey;obtain⟨na,nA⟩:=ny.mp nd;walk_at"aR";have hl:ae.length=vs.length:=by have:=rs.length;rwa[cE] at this
  refine⟨a0,_,rfl,DB.k (g3.all _ _ e) (by rw[Rq,cE,<- hl,Ry];exact hz),?_⟩;rw[ew];have nB:a0∉Bs:=λz=>na (sb.subset z);obtain⟨fq,ve⟩:=k.node (fl2:=fl) (d2:=.dK (kG ae key x)) g3 lv (λ_ z=>by cases z) id (.dK ⟨fP (l_ _ _ _) hz,λp hp=>(rG hp).elim (λz=>by rw[z];exact Cq ry hk) λz=>by obtain⟨p',ic,e'⟩:=de.mp z;rw[<- e'];exact kk.2 p' ic⟩ iL (pd.fA (aT.refl _) λb hb=>fR λz=>nB (by subst z;exact hb))) (sb.nodup nA) nB λb hb=>.inl (sb.subset hb)
  exact k1 σ _ iA _ fq sm ve q
 |@dT a0 vs ae A kk e rs =>
  cases ry with
  |tup t1 e1 II =>
   obtain⟨key,hk,hz,q⟩:=q3;obtain⟨b,eb,e5⟩:=Rep.sF (.tup t1 e1 II) hk;cases eb;obtain⟨kl,ko⟩:=Eb II hk;obtain⟨na,nA⟩:=ny.mp nd;walk_at"aR";have hl:ae.length=vs.length:=by have:=rs.length;rwa[cE] at this
   refine⟨a0,_,rfl,DB.t (g3.all _ _ e) e5 (by rw[Rq,cE,<- hl,Ry];exact hz),?_⟩;rw[ew];have nB:a0∉Bs:=λz=>na (sb.subset z);have l1:=II.length;obtain⟨fq,ve⟩:=k.node (fl2:=fl) (d2:=.dT (kG ae key x)) g3 lv (λ_ z=>by cases z) id (.dT ⟨fP (l_ _ _ _) hz,λp hp=>(rG hp).elim (λz=>by rw[z];exact⟨by lia,ko⟩) λz=>by obtain⟨p',ic,e'⟩:=de.mp z;rw[<- e'];exact kk.2 p' ic⟩ iL (pd.fA (aT.refl _) λb hb=>fR λz=>nB (by subst z;exact hb))) (sb.nodup nA) nB λb hb=>.inl (sb.subset hb)
   exact k1 σ _ iA _ fq sm ve q
  |_=>exact q3.elim
 |_=>exact q3.elim
end
abbrev WJ:=Env->Str->(Str->Prop)->Prop
section
variable {X:Cx}{K:PySem.W.Frag}{e:Expr}{te:WE}{j:WJ}
def oF:List D->Option (List Str)
 |[]=>some []
 |.str x :: xs=>(oF xs).map (x :: ·)
 |_ :: _=>none
def xm(to te:WE):WE:=λρ Q=>to ρ λ_ x=>match x with
 |.str z=>te ρ λ_ y=>match y with
  |.list ys=>∃ zs,oF ys=some zs/\(zs.map (·.length)).sum+zs.length*z.length<=16777216/\Q .sh (.str (Str.join z zs))
  |_=>False
 |_=>False
theorem C_{H:Hp}{ds:List D}{vs:List V}{us:List Value}{zs:List Str}(r:bp K H ds vs)(q:Vals vs us)(h:oF ds=some zs):StrsAre us zs:=by
 induction ds generalizing vs us zs with
 |nil =>simp[oF] at h;subst h;have:=r.n0;subst this;rw[Paired.n0 q];exact .nil
 |cons d ds ih =>
  obtain⟨v,vs,rfl,r1,rs⟩:=r.c;obtain⟨u,us,rfl,q1,qs⟩:=Paired.c q
  cases r1 with
  |str hz =>
   simp only[oF] at h
   cases e:oF ds with
   |none=>rw[e] at h;cases h
   |some ys =>rw[e] at h;cases h;obtain⟨t,rfl⟩:=q1;exact .cons _ t (ih rs qs e)
  |_=>simp[oF] at h
theorem Hk (hK:X.K=K:=by rfl):HC X "str.join" (λx xs H Q=>∃ z a ds vs zs,x=.str z/\xs=[.ref a]/\eJ K H a vs/\bp K H ds vs/\oF ds=some zs/\(zs.map (·.length)).sum+zs.length*z.length<=16777216/\Q (.str (Str.join z zs)) H):=by subst hK;intro pins s σ H x xs v us Q I rx rs h;obtain⟨z,a,ds,vs,zs,rfl,rfl,hs,rr,e,hz,q⟩:=h;obtain⟨t,rfl⟩:=rx;obtain⟨u,rfl,ru⟩:=Vals.one rs;cases ru;obtain⟨its,rv,pl,_⟩:=I.list hs;exact join_list pl.isList (by simpa using C_ rr rv e) hz λt' k=>⟨.str _,H,I.tok _,⟨t',rfl⟩,by rw[show Txt.join z zs=Str.join z zs from StrLaws.glued_eq_join z zs];exact q⟩
theorem jG{z:Str}:∀ {zs:List Str},(Str.join z zs).length<=(zs.map (·.length)).sum+zs.length*z.length
 |[]=>by show Str.empty.length<=_;exact fP (show Str.empty.length<=0 by decide) (dy _)
 |[x]=>by simp[Str.join]
 |x :: y :: r=>by have ih:=jG (z:=z) (zs:=y :: r);show(x++z++Str.join z (y :: r)).length<=_;rw[au,au];simp only[fz,List.sum_cons,oP,LJ,EA] at ih ⊢;lia
theorem Ie{o:Expr}{to:WE}{apos cw:Pos}(ho:QE X K o to)(he:QE X K e te)(hK:X.K=K:=by rfl) (tN:attributeBase o "join" X.env (eval o X.env)=eval o X.env:=by rfl) (pe:((backTo cw (starEach [e] X.env)).all (λx=>!x.1) && (backToKw cw (keywordEach [] X.env)).all (λx=>x.1.isSome)
   && decide ([e].length+([]:List Keyword).length+(if ([]:List Keyword).isEmpty then 0 else 1)<30))=true:=by rfl)
  (hline:(apos.endLine == cw.line)=true:=by rfl) (pS:starEach (e :: []) X.env=(false,eval e X.env) :: starEach [] X.env:=by rfl) (tP:(backTo cw (starEach [] X.env)).any (·.1)=false:=by rfl) :
  QE X K (.Call (.Attribute o "join" apos) [e] [] cw) (xm to te):=by
 subst hK;refine PE.imp (HG PySem.F.plainAttrs_str PySem.F.slot_str_join PySem.F.type_str_join Hk ho (mG he rU pS) tN pe hline pS tP) λσ H Qv hx=>iq hx λHs ρ ag Q sr h f=>?_;walk_at"a";walk_at"B"
 cases r with
 |str hz =>
  walk_at"m";have rr:=r2.rep g2.wf
  cases rr with
  |list z s rs =>obtain⟨zs,e,hz,q⟩:=q2;exact⟨_,_,_,_,zs,rfl,rfl,s,rs,e,hz,Fin.sh (Fin.after f (g1.trans g2)) g2.wf (.str (fP jG (by rw[sizeLine_eq];exact hz))) q⟩
  |_=>exact q2.elim
 |_=>exact q1.elim
def sF(k:List Key):D:=.tup (k.map oD)
def BJ:W1:=λ_ x Q=>match x with
 |.list xs=>∃ ks sh,xs=ks.map sF/\(∀ k∈ks,ip k=true :: sh)/\∀ ms:List (List Key),ms.Perm ks->(ms.Pairwise λa b=>gv b a=false)->Q (.ow true) (.list (ms.map sF))
 |_=>False
theorem zJ{H:Hp}{ks:List Key}{vs:List V}(r:bp K H (ks.map oD) vs):vs=ks.map kV/\∀ k∈ks,yb k=true:=by
 induction ks generalizing vs with
 |nil=>exact⟨r.n0,λk h=>nomatch h⟩
 |cons k ks ih =>
  obtain⟨u,us,rfl,r1,rs⟩:=bp.c (d:=oD k) r;obtain⟨e,o⟩:=ih rs;subst e
  cases k with
  |inl i=>cases r1;exact⟨rfl,λj hj=>by rcases dc.mp hj with rfl|hj;rfl;exact o j hj⟩
  |inr x =>
   cases r1 with
   |str hz=>exact⟨rfl,λj hj=>by rcases dc.mp hj with rfl|hj;simp[yb,hz];exact o j hj⟩
theorem Cd{H:Hp}{ks:List (List Key)}{vs:List V}(r:bp K H (ks.map sF) vs):dg H vs ks/\∀ k∈ks,k.length<=sizeLine/\∀ j∈k,yb j=true:=by
 induction ks generalizing vs with
 |nil=>rw[r.n0];exact⟨.nil,λk h=>nomatch h⟩
 |cons k ks ih =>
  obtain⟨u,us,rfl,r1,rs⟩:=bp.c (d:=sF k) r;obtain⟨t,o⟩:=ih rs
  cases r1 with
  |tup hz e q =>
   obtain⟨e2,o2⟩:=zJ q;subst e2;exact⟨.cons ⟨_,rfl,e⟩ t,λj hj=>by
    rcases dc.mp hj with rfl|hj
    ·exact⟨by simpa using hz,o2⟩
    ·exact o j hj⟩
theorem Cy:Bi K (yh K) BJ:=by
 walk_at"s";walk_at"ad"
 cases r1 with
 |list z s q =>obtain⟨ks,sh,rfl,hs,h⟩:=h;obtain⟨ta,ok⟩:=Cd q;have hl:=q.length;rw[cE] at hl;refine⟨_,ks,sh,s,ta,hs,λzs ms l tz pm pw VB=>?_⟩;have rr:=sG (K:=K) tz λk hk=>ok k (pm.mem_iff.mp hk);exact f.lst w (by rw[cE,pm.length_eq];lia) rr (jn ms) (h ms pm pw) l VB
 |_=>exact h.elim
theorem Iu (hK:X.K=K:=by rfl):i9 X (.builtin "sorted") (yh K):=by subst hK;exact zm
theorem mY:bootBuiltins "sorted" = some (.builtin "sorted"):=by decide +kernel
end
def shF(A:List Addr)(F:Nat->List Addr):Nat->List Addr
 |0=>A
 |i+1=>F i
def Fc(K:PySem.W.Frag)(Hs H:Hp)(ρ:Env)(σ:St)(ag:List Addr)(F:Nat->List Addr):Prop:=(∀ i fl d,ρ[i]? = some (some (.ow fl d))->∃ v,σ[i]? = some (some v)/\F i≠[]/\bS K Hs H fl d v (F i)) /\ (∀ i,(F i).Sublist ag)/\∀ i j,i≠j->∀ a∈F i,a∉F j
theorem Fc.skip{K:PySem.W.Frag}{Hs H:Hp}{ρ:Env}{σ:St}{ag:List Addr}{F:Nat->List Addr}{o:Option Sl}{u:Option V}(h:Fc K Hs H ρ σ ag F)(no:∀ fl d,o≠some (.ow fl d)):Fc K Hs H (o :: ρ) (u :: σ) ag (shF [] F):=by
 obtain⟨a,b,c⟩:=h;refine⟨λi fl d e=>?_,λi=>?_,λi j ne x hx=>?_⟩
 ·cases i with
  |zero=>simp at e;exact absurd e (no fl d)
  |succ i=>exact a i fl d (by simpa using e)
 ·cases i with
  |zero=>exact B1 _
  |succ i=>exact b i
 ·cases i with
  |zero=>exact w9 hx
  |succ i =>
   cases j with
   |zero=>exact λz=>w9 z
   |succ j=>exact c i j (λz=>ne (by rw[z])) x hx
theorem Fc.own{K:PySem.W.Frag}{Hs H:Hp}{ρ:Env}{σ:St}{ag B:List Addr}{F:Nat->List Addr}{sl:Sl}{v:V}(h:Fc K Hs H ρ σ ag F)(n:(B++ag).Nodup)(hs:∀ fl d,sl=.ow fl d->B≠[]/\bS K Hs H fl d v B):Fc K Hs H (some sl :: ρ) (some v :: σ) (B++ag) (shF B F):=by
 obtain⟨a,b,c⟩:=h;walk_at"n";refine⟨λi fl d e=>?_,λi=>?_,λi j ne x hx=>?_⟩
 ·cases i with
  |zero=>simp at e;exact⟨v,rfl,hs fl d e⟩
  |succ i=>exact a i fl d (by simpa using e)
 ·cases i with
  |zero=>exact FK _ _
  |succ i=>exact(b i).trans (pV _ _)
 ·cases i with
  |zero =>
   cases j with
   |zero=>exact absurd rfl ne
   |succ j=>exact λz=>n3 x hx x ((b j).subset z) rfl
  |succ i =>
   cases j with
   |zero=>exact λz=>n3 x z x ((b i).subset hx) rfl
   |succ j=>exact c i j (λz=>ne (by rw[z])) x hx
theorem SR.addrs{K:PySem.W.Frag}{Hs H:Hp}{ρ:Env}{σ:St}{ag:List Addr}(s:SR K Hs H ρ σ ag):ag.Nodup->∃ F:Nat->List Addr,Fc K Hs H ρ σ ag F:=by
 induction s with
 |nil=>exact λ_=>⟨λ_=>[],λi fl d e=>by simp at e,λi=>B1 _,λi j _ a h=>w9 h⟩
 |non s ih =>intro n;obtain⟨F,h⟩:=ih n;exact⟨_,h.skip λfl d z=>by cases z⟩
 |sh r s ih =>intro n;obtain⟨F,h⟩:=ih n;exact⟨_,h.skip λfl d z=>by cases z⟩
 |xc s ih =>intro n;obtain⟨F,h⟩:=ih n;exact⟨_,h.skip λfl d z=>by cases z⟩
 |ow ne r s ih =>intro n;obtain⟨F,h⟩:=ih (hJ.mp n).2.1;exact⟨_,h.own n λfl d e=>by cases e;exact⟨ne,r⟩⟩
 |lk ne r s ih =>intro n;obtain⟨F,h⟩:=ih (hJ.mp n).2.1;exact⟨_,h.own n λfl d e=>by cases e⟩
abbrev Plan:=List (WE ⊕ Nat)
def Te:Plan->List Nat
 |[]=>[]
 |.inl _ :: r=>Te r
 |.inr i :: r=>i :: Te r
def Tf:Option (Option Sl)->Option (Md × D)
 |some (some (.sh d))=>some (.sh,d)
 |some (some (.ow fl d))=>some (.ow fl,d)
 |_=>none
def mX:Plan->Env->(List (Md × D)->Prop)->Prop
 |[],_,Q=>Q []
 |.inl t :: r,ρ,Q=>t ρ λm x=>mX r ρ λps=>Q ((m,x) :: ps)
 |.inr i :: r,ρ,Q=>match Tf ρ[i]? with
  |some p=>mX r ρ λps=>Q (p :: ps)
  |none=>False
def tpM(K:PySem.W.Frag)(pl:Plan):TA:=λσ H Qv=>∃ (Hs:Hp) (ρ:Env) (ag:List Addr) (F:Nat->List Addr) (Q:List (Md × D)->Prop),dE K Hs ρ σ H ag/\(∀ i fl d,ρ[i]? = some (some (.ow fl d))->∃ v,σ[i]? = some (some v)/\F i≠[]/\bS K Hs H fl d v (F i))/\(∀ i,(F i).Sublist ag)/\(∀ i j,i≠j->∀ a∈F i,a∉F j) /\
 mX pl ρ Q/\∀ vs H' aw ps As,eS Hs H aw H'->w_ K aw H' ps vs As->As.Nodup->(∀ a∈As,aw a=none/\(H a=none\/∃ i∈Te pl,a∈F i))->Q ps->Qv vs H'
abbrev QM(X:Cx)(K:PySem.W.Frag)(es:List Expr)(pl:Plan):Prop:=PA X es (tpM K pl)
section
variable {X:Cx}{K:PySem.W.Frag}{e:Expr}{es:List Expr}{te:WE}{pl:Plan}{pos:Pos}
theorem Ep:QM X K [] []:=PA.imp rU λσ H Qv hx=>by obtain⟨Hs,ρ,ag,F,Q,sr,h1,h2,h3,h,f⟩:=hx;exact f [] H Hs [] [] (eS.refl sr.wf) .nil kA (λa h=>w9 h) h
theorem dq'(ha:QE X K e te)(hr:QM X K es pl)(hs:starEach (e :: es) X.env=(false,eval e X.env) :: starEach es X.env:=by rfl):QM X K (e :: es) (.inl te :: pl):=by
 refine PA.imp (mG ha hr hs) λσ H Qv ck=>?_;obtain⟨Hs,ρ,ag,F,Q,sr,h1,h2,h3,h,f⟩:=ck;refine⟨Hs,ρ,ag,_,sr,h,λv H1 ay m x As g1 r1 f1 q1=>⟨ay,ρ,ag,F,_,sr.grow g1,(λi fl d e=>?_),h2,h3,q1,λvs H2 aI ps Bs g2 r2 mh o2 q2=>?_⟩⟩
 ·obtain⟨v,a,b,c⟩:=h1 i fl d e;exact⟨v,a,b,c.grow g1.sh g1.all⟩
 ·refine f (v :: vs) H2 aI _ _ (g1.trans g2) (.cons (r1.grow g2) r2) (hJ.mpr ⟨f1.1,mh,λa ha b hb e=>?_⟩) (λa ha=>?_) q2
  ·subst e;rcases (o2 a hb).2 with z|⟨i,_,z⟩
   ·exact(r1.own a ha).ne z
   ·exact(sr.sr.own a ((h2 i).subset z)).ne (f1.2 a ha).2
  ·rcases eI.mp ha with z|z
   ·exact⟨g2.nK (f1.2 a z).1 (r1.own a z).ne,.inl (f1.2 a z).2⟩
   ·exact⟨(o2 a z).1,(o2 a z).2.imp g1.all.free id⟩
theorem dr'{i:Nat}(ha:PE X e (AQ i))(hr:QM X K es pl)(hi:i∉Te pl:=by decide)(hs:starEach (e :: es) X.env=(false,eval e X.env) :: starEach es X.env:=by rfl):QM X K (e :: es) (.inr i :: pl):=by
 refine PA.imp (mG ha hr hs) λσ H Qv ck=>?_;obtain⟨Hs,ρ,ag,F,Q,sr,h1,h2,h3,h,f⟩:=ck;unfold mX at h
 cases hm:Tf ρ[i]? with
 |none=>rw[hm] at h;exact h.elim
 |some p =>
  rw[hm] at h;have key:∃ v A,σ[i]? = some (some v)/\RM K Hs H p.1 p.2 v A/\A.Nodup/\∀ a∈A,a∈F i:=by
   cases e1:ρ[i]? with
   |none=>rw[e1] at hm;cases hm
   |some o =>
    cases o with
    |none=>rw[e1] at hm;cases hm
    |some sl =>
     cases sl with
     |sh d =>rw[e1] at hm;cases hm;obtain⟨v,a,b⟩:=sr.sr.get e1;exact⟨v,[],a,⟨rfl,b⟩,kA,λa h=>nomatch h⟩
     |lk a fl d=>rw[e1] at hm;cases hm
     |xc a=>rw[e1] at hm;cases hm
     |ow fl d =>rw[e1] at hm;cases hm;obtain⟨v,a,b,c⟩:=h1 i fl d e1;exact⟨v,F i,a,⟨c,b⟩,(h2 i).nodup sr.qE,λa h=>h⟩
  obtain⟨v,A,ev,rm,VC,hA⟩:=key;refine⟨v,ev,Hs,ρ,ag,F,_,sr,h1,h2,h3,h,λvs H2 aI ps Bs g2 r2 mh o2 q2=>?_⟩;refine f (v :: vs) H2 aI _ _ g2 (.cons (rm.grow g2) r2) (hJ.mpr ⟨VC,mh,λa ha b hb e=>?_⟩) (λa ha=>?_) q2
  ·subst e;rcases (o2 a hb).2 with z|⟨j,hj,z⟩
   ·exact(rm.own a ha).ne z
   ·exact h3 i j (λz=>hi (by rw[z];exact hj)) a (hA a ha) z
  ·rcases eI.mp ha with z|z
   ·have:a∈ag:=(h2 i).subset (hA a z);exact⟨g2.nK (sr.own a this) (sr.sr.own a this).ne,.inr ⟨i,dv,hA a z⟩⟩
   ·exact⟨(o2 a z).1,(o2 a z).2.imp id λ⟨j,hj,q⟩=>⟨j,cK _ hj,q⟩⟩
def Cu(pl:Plan):WS:=λE ρ=>mX pl ρ λps=>ps.length<=sizeLine/\E.rt (yt ps) (.tup (ps.map (·.2)))
theorem zB{x1}{ku':Pos}(h:QM X K es pl):QS X K L (.Return (some (.Tuple es x1 ku')) pos) (Cu pl):=by
 refine PS.imp (GV (UI h)) λD σ H hx=>iM hx λHs ρ ag E sr h k1 k2 k3 k4=>?_;obtain⟨F,h1,h2,h3⟩:=sr.sr.addrs sr.qE;refine⟨Hs,ρ,ag,F,_,sr,h1,h2,h3,h,λvs H1 ay ps As g1 r1 nd1 o1 q1=>?_⟩;obtain⟨hz,q⟩:=q1;have rl:=r1.reps g1.wf;have hl:=rl.length;rw[cE] at hl;refine⟨by lia,λp hp=>?_⟩;have g2:=SY (vs:=vs) g1.wf hp;have sm:aT Hs (upd ay p (.tup vs)):=g1.sh.trans g2.sh;unfold yt at q
 cases e1:ps.all uj with
 |true =>rw[e1] at q;exact k4 _ _ _ .sh _ [] sm g2.wf ⟨rfl,.tup (by lia) iL ((r1.sh g1.wf e1).same g2.sh)⟩ kA (λa h=>nomatch h) q
 |false =>
  rw[e1] at q
  cases e2:ps.all E7 with
  |false =>rw[e2] at q;exact k4 _ _ _ .bo _ [] sm g2.wf ⟨rfl,.tup (by lia) iL (rl.same g2.all)⟩ kA (λa h=>nomatch h) q
  |true =>
   rw[e2] at q;obtain⟨Bs,sb,nz,ro⟩:=r1.ow (fl:=ps.all DS) g1.wf e2 λz=>z;have kf:cS (ps.map (·.2))=false:=by
    cases hf:cS (ps.map (·.2)) with
    |false=>rfl
    |true=>rw[sJ hf] at e1;cases e1
   exact k4 _ _ _ (.ow _) _ Bs sm g2.wf ⟨.tup (by lia) iL kf (ro.grow g2.sh g2.all),nz e1⟩ (sb.nodup nd1) (λa ha=>g2.nK (o1 a (sb.subset ha)).1 (ro.own a ha).ne) q
end
def ds':eA:=λds Q=>∃ ns:List Int,ds=[.list (ns.map .int)]/\ns.length<=63/\∀ m,Q m (.bl true)
theorem ints_rep{K:PySem.W.Frag}{H:Hp}:∀ (ns:List Int),bp K H (ns.map .int) (ns.map V.int)
 |[]=>.nil
 |n :: ns=>.cons (.int n) (ints_rep ns)
theorem Ed{K:PySem.W.Frag}{H:Hp}{a:Addr}{ns:List Int}{E:XK}(hl:ns.length<=63)(hS:eJ K H a (ns.map V.int)):aA K ds' [.ref a] H (λv _=>v=.bl true) E:=by refine⟨[.list (ns.map .int)],λ_ d=>d=.bl true,.cons (.list (by rw[cE];exact fP hl (by decide)) hS (ints_rep ns)) .nil,⟨ns,rfl,hl,λ_=>rfl⟩,?_⟩;intro v H' aw m d As s w r nd own q;subst q;have:=r.rep w;cases this;rfl
abbrev sg(x:Str):List Nat:=x.cps.toList
theorem iG(x y:Str):sg (x++y)=sg x++sg y:=by show(x.cps++y.cps).toList=_;simp[sg]
theorem cz(x:Str):x.length=(sg x).length:=by simp[Str.length,sg]
theorem empty_app(x:Str):Str.empty++x=x:=kI (by rw[<- sg,iG];rfl)
def vk(x:Str):Prop:=∀ c∈sg x,c<0x110000
theorem zE(x:Str):PyData.strOk x=true↔vk x:=by unfold PyData.strOk vk sg;rw[Array.all_eq_true'];simp
theorem Tg{α:Type}(x:α)(l:List α):fv (x :: l) 0=some x:=by simp[L2.fv,x4]
theorem kw'{α:Type}(x y:α)(l:List α):fv (x :: y :: l) 1=some y:=by have:=Dx (xs:=x :: y :: l) (j:=1) (v:=y) rfl;exact this
theorem kx'{α:Type}(x y z:α)(l:List α):fv (x :: y :: z :: l) 2=some z:=by have:=Dx (xs:=x :: y :: z :: l) (j:=2) (v:=z) rfl;exact this
theorem J7:Str.empty.length=0:=by decide
end L2.Q
namespace L2.Q.R
open PySem PySem.Spec PyProof.Rows L2.Q
section
variable {f:D->Prop}{k:Kt f}
theorem Nt:bP .non k=f .non:=rfl
theorem PN{b:Bool}:bP (.bl b) k=f (.bl b):=rfl
theorem Od{i:Int}:bP (.int i) k=f (.int i):=rfl
theorem NT{x:Str}:bP (.str x) k=f (.str x):=rfl
theorem K7{xs:List D}:bP (.list xs) k=f (.list xs):=rfl
theorem Oz{xs:List D}:bP (.tup xs) k=f (.tup xs):=rfl
theorem Pn{xs:List (Key × D)}:bP (.dK xs) k=f (.dK xs):=rfl
theorem Qk{xs:List (List Key × D)}:bP (.dT xs) k=f (.dT xs):=rfl
end
theorem Ml{f:Bool->Prop}{k:Kt f}:bP true k=f true:=rfl
theorem Kv{f:Bool->Prop}{k:Kt f}:bP false k=f false:=rfl
theorem Nu{d:D}{f:Md × D->Prop}{k:Kt f}:bP (Md.sh,d) k=f (.sh,d):=rfl
theorem Nh{b:Bool}{d:D}{f:Md × D->Prop}{k:Kt f}:bP (Md.ow b,d) k=f (.ow b,d):=rfl
theorem Ny{d:D}{f:Md × D->Prop}{k:Kt f}:bP (Md.bo,d) k=f (.bo,d):=rfl
theorem Nm{d:D}{f:Option Sl->Prop}{k:Kt f}:bP (some (.sh d)) k=f (some (.sh d)):=rfl
theorem Ob{b:Bool}{d:D}{f:Option Sl->Prop}{k:Kt f}:bP (some (.ow b d)) k=f (some (.ow b d)):=rfl
theorem Ol{p:Md × D}{f:Option (Md × D)->Prop}{k:Kt f}:bP (some p) k=f (some p):=rfl
theorem Py{p:Bool}{f:Option Bool->Prop}{k:Kt f}:bP (some p) k=f (some p):=rfl
theorem Ox{d:D}{f:Option (Option Sl)->Prop}{k:Kt f}:bP (some (some (.sh d))) k=f (some (some (.sh d))):=rfl
theorem Nv{b:Bool}{d:D}{f:Option (Option Sl)->Prop}{k:Kt f}:bP (some (some (.ow b d))) k=f (some (some (.ow b d))):=rfl
section
variable {E:n8}{ρ:Env}{Q:Md->D->Prop}{B:Bool->Prop}{t u:WS}{te ta tb tc PD:WE}{tt tu:WT}{tar:WA}{i j n:Nat}{m m':Md}{d d':D}{sp:eA}{p:WP}{R:List (Md × D)->Prop}
theorem Np:bx E ρ=E.nx ρ:=rfl
theorem Qh:b5 t u E ρ=t { E with nx:=u E } ρ:=rfl
theorem Q4:eP te E ρ=te ρ E.rt:=rfl
def put(sl:Option Sl)(k:Sl->Prop):Prop:=match sl with
 |some s=>k s
 |none=>False
theorem Oj{k:Sl->Prop}:put (some (.sh d)) k=k (.sh d):=rfl
theorem NK{b:Bool}{k:Sl->Prop}:put (some (.ow b d)) k=k (.ow b d):=rfl
theorem QK:fS i te E ρ=te ρ λm d=>bP (asg m d) (f:=λo=>put o λsl=>E.nx (ρ.set i (some sl))) ⟨⟩:=rfl
theorem Qt:eW tt t u E ρ=tt ρ λb=>bP b (f:=λb=>if b=true then t E ρ else u E ρ) ⟨⟩:=rfl
theorem O7:vP i E ρ=bP ρ[i]? (f:=λo=>match o with
 |some (some (.sh d))=>E.rt .sh d
 |some (some (.ow fl d))=>E.rt (.ow fl) d
 |_=>False) ⟨⟩:=rfl
theorem Ou{pl:Plan}:Cu pl E ρ=mX pl ρ λps=>ps.length<=sizeLine/\E.rt (yt ps) (.tup (ps.map (·.2))):=rfl
theorem Jg:mX [] ρ R=R []:=rfl
theorem Mt{r:Plan}:mX (.inl te :: r) ρ R=te ρ λm x=>mX r ρ λps=>R ((m,x) :: ps):=rfl
def mov(o:Option (Md × D))(k:Md × D->Prop):Prop:=match o with
 |some p=>k p
 |none=>False
theorem Kq{p:Md × D}{k:Md × D->Prop}:mov (some p) k=k p:=rfl
theorem Mp{r:Plan}:mX (.inr i :: r) ρ R=bP (Tf ρ[i]?) (f:=λo=>mov o λp=>mX r ρ λps=>R (p :: ps)) ⟨⟩:=rfl
theorem Ql:sN i t E ρ=t E (OZ i ρ):=rfl
-- tests
def bol(d:D)(B:Bool->Prop):Prop:=match d with
 |.bl b=>B b
 |_=>False
theorem Ot{b:Bool}:bol (.bl b) B=B b:=rfl
theorem wB_:wB te ρ B=te ρ λ_ x=>bP x (f:=λx=>bol x B) ⟨⟩:=rfl
theorem Qm:S5 te ρ B=te ρ λ_ x=>bP x (f:=λx=>∃ b,S4 x=some b/\B b) ⟨⟩:=rfl
theorem QJ:md tt ρ B=tt ρ λc=>B (!c):=rfl
theorem kz':qV tt tu ρ B=tt ρ λc=>bP c (f:=λc=>if c=true then B true else tu ρ B) ⟨⟩:=rfl
theorem PL:E9 ρ B=B true:=rfl
-- expressions
theorem Qq:av i ρ Q=bP ρ[i]? (f:=λo=>OQ o Q) ⟨⟩:=rfl
theorem Lz:OQ (some (some (.sh d))) Q=Q .sh d:=rfl
theorem MP{b:Bool}:OQ (some (some (.ow b d))) Q=Q .bo d:=rfl
theorem wC_:wC d ρ Q=Q .sh d:=rfl
theorem kB'{f:W2}:ax f ta tb ρ Q=ta ρ λm x=>tb ρ λn y=>f m x n y Q:=rfl
theorem kC'{f:W1}:dr f ta ρ Q=ta ρ λm x=>f m x Q:=rfl
theorem LC{f g:W2}:gh f g ta tb tc ρ Q=ta ρ λm x=>tb ρ λn y=>f m x n y λ_ z=>bP z (f:=λz=>bol z λk=>bP k (f:=λk=>if k=true then tc ρ λl w=>g n y l w Q else Q .sh (.bl false)) ⟨⟩) ⟨⟩:=by unfold gh bP bol;rfl
theorem Oa:rP ta tb ρ Q=ta ρ λ_ x=>bP x (f:=λx=>bol x λc=>bP c (f:=λc=>if c=true then tb ρ Q else Q .sh (.bl false)) ⟨⟩) ⟨⟩:=by unfold rP bP bol;rfl
theorem QX:IH ta tb ρ Q=ta ρ λ_ x=>bP x (f:=λx=>bol x λc=>bP c (f:=λc=>if c=true then Q .sh (.bl true) else tb ρ Q) ⟨⟩) ⟨⟩:=by unfold IH bP bol;rfl
theorem Ng:Cw ta ρ Q=ta ρ λ_ x=>bP x (f:=λx=>bol x λc=>Q .sh (.bl (!c))) ⟨⟩:=by unfold Cw bP bol;rfl
theorem O6:ao te tar ρ R=te ρ λm x=>tar ρ λps=>R ((m,x) :: ps):=rfl
theorem QF:b9 ρ R=R []:=rfl
theorem Px:se tar ρ Q=tar ρ λps=>ps.length<=sizeLine/\Q (yt ps) (.tup (ps.map (·.2))):=rfl
theorem QL:kH tar ρ Q=tar ρ λps=>ps.length<=sizeLine/\Q (G9 ps) (.list (ps.map (·.2))):=rfl
theorem N6:cC sp tar ρ Q=tar ρ λps=>sp (ps.map (·.2)) λm d=>bP (m,d) (f:=λp=>Q (uk p.1 p.2) p.2) ⟨⟩:=rfl
-- operators
section
variable {x y:Str}{a b:Int}{xs ys:List D}{ae:List (Key × D)}{Bz:List (List Key × D)}
theorem Mz:fw m (.int a) m' (.int b) Q=Q .sh (.int (a+b)):=rfl
theorem Mh:fw m (.str x) m' (.str y) Q=(x.length+y.length<=sizeLine/\Q .sh (.str (x++y))):=rfl
theorem LK:fw m (.list xs) m' (.list ys) Q=(xs.length+ys.length<=sizeLine/\((cS xs=true/\cS ys=true/\Q (.ow true) (.list (xs++ys)))\/(m=.sh/\m'=.sh/\Q (.ow false) (.list (xs++ys))))):=rfl
theorem KD:fw m (.tup xs) m' (.tup ys) Q=(xs≠[]/\xs.length+ys.length<=sizeLine/\cS xs=true/\cS ys=true/\Q .sh (.tup (xs++ys))):=rfl
theorem Ms:S6 m (.int a) m' (.int b) Q=Q .sh (.int (a-b)):=rfl
theorem K3:S7 m (.int a) m' (.int b) Q=(G0 a b/\Q .sh (.int (a*b))):=rfl
theorem LR:jI m (.int a) m' (.int b) Q=((0<b/\b<1073741824)/\Q .sh (.int (a / b))):=rfl
theorem Lr:kr m (.int a) m' (.int b) Q=(0<b/\Q .sh (.int (a % b))):=rfl
theorem NB:zS m (.int a) m' (.int b) Q=Q .sh (.bl (decide (a<b))):=rfl
theorem N7:zS m (.str x) m' (.str y) Q=Q .sh (.bl (ov x y)):=rfl
theorem Nq:oB m (.int a) m' (.int b) Q=Q .sh (.bl (decide (a<=b))):=rfl
theorem M8:oB m (.str x) m' (.str y) Q=Q .sh (.bl (!ov y x)):=rfl
theorem N_:DM m (.int a) m' (.int b) Q=Q .sh (.bl (decide (b<a))):=rfl
theorem Oq:S8 m (.int a) m' (.int b) Q=Q .sh (.bl (decide (b<=a))):=rfl
theorem Ow:ng m (.int a) m' (.int b) Q=Q .sh (.bl (decide (a=b))):=rfl
theorem Om:ng m (.str x) m' (.str y) Q=Q .sh (.bl (decide (x=y))):=rfl
theorem M9{k l:Bool}:ng m (.bl k) m' (.bl l) Q=Q .sh (.bl (decide (k=l))):=rfl
theorem Pu:ng m (.list xs) m' d Q=(cv 12 (.list xs)=true/\cv 12 d=true/\Q .sh (.bl (kg (.list xs) d))):=by cases d<;>rfl
theorem Qf:ng m (.tup xs) m' d Q=(cv 12 (.tup xs)=true/\cv 12 d=true/\Q .sh (.bl (kg (.tup xs) d))):=by cases d<;>rfl
theorem Q0:ng m .non m' d Q=(cv 12 .non=true/\cv 12 d=true/\Q .sh (.bl (kg .non d))):=by cases d<;>rfl
theorem O9:nh m (.int a) m' (.int b) Q=Q .sh (.bl (!decide (a=b))):=rfl
theorem N8:nh m (.str x) m' (.str y) Q=Q .sh (.bl (!decide (x=y))):=rfl
theorem Pr:nh m (.list xs) m' d Q=(cv 12 (.list xs)=true/\cv 12 d=true/\Q .sh (.bl (!kg (.list xs) d))):=by cases d<;>rfl
theorem QD:nh m (.tup xs) m' d Q=(cv 12 (.tup xs)=true/\cv 12 d=true/\Q .sh (.bl (!kg (.tup xs) d))):=by cases d<;>rfl
theorem Q3:nh m .non m' d Q=(cv 12 .non=true/\cv 12 d=true/\Q .sh (.bl (!kg .non d))):=by cases d<;>rfl
theorem Qy:Vq m d m' .non Q=Q .sh (.bl d.S9):=rfl
theorem QV{neg:Bool}:z0 neg m (.str x) m' (.str y) Q=Q .sh (.bl (if neg then !ua x y else ua x y)):=rfl
theorem Qs{neg:Bool}:z0 neg m d m' (.list ys) Q=(iB d=true/\ys.all iB=true/\Q .sh (.bl (if neg then !inD d ys else inD d ys))):=rfl
theorem Qc{neg:Bool}:z0 neg m d m' (.tup ys) Q=(iB d=true/\ys.all iB=true/\Q .sh (.bl (if neg then !inD d ys else inD d ys))):=rfl
theorem Q5{neg:Bool}:z0 neg m d m' (.dK ae) Q = ∃ k,d.key1=some k/\Q .sh (.bl (if neg then !(n4 ae k).isSome else (n4 ae k).isSome)):=rfl
theorem Qj{neg:Bool}:z0 neg m (.tup xs) m' (.dT Bz) Q = ∃ ks,iC xs=some ks/\Q .sh (.bl (if neg then !(n4 Bz ks).isSome else (n4 Bz ks).isSome)):=rfl
theorem QH:eB m (.list xs) m' (.int a) Q = ∃ d,fv xs a=some d/\bP d (f:=λd=>Q (n5 m d) d) ⟨⟩:=rfl
theorem PQ:eB m (.tup xs) m' (.int a) Q = ∃ d,fv xs a=some d/\bP d (f:=λd=>Q (n5 m d) d) ⟨⟩:=rfl
theorem Qa:eB m (.str x) m' (.int a) Q = ∃ c,fv x.cps.toList a=some c/\Q .sh (.str ⟨#[c]⟩):=rfl
theorem Pk:eB m (.dK ae) m' d Q = ∃ k d',d.key1=some k/\n4 ae k=some d'/\bP d' (f:=λd'=>Q (n5 m d') d') ⟨⟩:=rfl
theorem Pq:eB m (.dT Bz) m' (.tup ys) Q = ∃ ks d',iC ys=some ks/\n4 Bz ks=some d'/\bP d' (f:=λd'=>Q (n5 m d') d') ⟨⟩:=rfl
theorem Oc:gS m (.str x) Q=Q .sh (.int x.length):=rfl
theorem Og:gS m (.list xs) Q=Q .sh (.int xs.length):=rfl
theorem N5:gS m (.tup xs) Q=Q .sh (.int xs.length):=rfl
theorem O3:gS m (.dK ae) Q=Q .sh (.int ae.length):=rfl
theorem Nz:gS m (.dT Bz) Q=Q .sh (.int Bz.length):=rfl
theorem QQ{T:String}:z5 T m d Q=Q .sh (.bl (HV d.ty T)):=rfl
theorem KR:Ba m (.list xs) Q=((cS xs=true/\Q (.ow true) (.list xs))\/(m=.sh/\Q (.ow false) (.list xs))):=rfl
theorem La:Ba m (.tup xs) Q=((cS xs=true/\Q (.ow true) (.list xs))\/(m=.sh/\Q (.ow false) (.list xs))):=rfl
theorem Mx:Ba m (.dT Bz) Q=Q (.ow true) (.list (Bz.map λkv=>.tup (kv.1.map oD))):=rfl
theorem kD'{tl th:WO}:rg te tl th ρ Q=te ρ λm x=>tl ρ λlo=>th ρ λhi=>OW m x lo hi Q:=rfl
theorem Km{O:Option Int->Prop}:cW ρ O=O none:=rfl
def int'(d:D)(k:Int->Prop):Prop:=match d with
 |.int i=>k i
 |_=>False
theorem Pg{k:Int->Prop}:int' (.int a) k=k a:=rfl
theorem Oh{O:Option Int->Prop}:gj te ρ O=te ρ λ_ x=>bP x (f:=λx=>int' x λi=>O (some i)) ⟨⟩:=by unfold gj bP int';rfl
theorem Qu{lo hi:Option Int}:OW m (.str x) lo hi Q=Q .sh (.str (gu x lo hi)):=rfl
theorem Qx{lo hi:Option Int}:OW m (.list xs) lo hi Q=((cS xs=true/\Q (.ow true) (.list (ki xs lo hi)))\/(m=.sh/\Q (.ow false) (.list (ki xs lo hi)))):=rfl
theorem PJ{lo hi:Option Int}:OW m (.tup xs) lo hi Q=(cS xs=true/\¬ (HT.bI xs.length 0 lo=0/\HT.bI xs.length xs.length hi=xs.length)/\Q .sh (.tup (ki xs lo hi))):=rfl
end
-- texts
def yv(d:D)(k:Str->Prop):Prop:=match d with
 |.str x=>k x
 |_=>False
theorem O1{x:Str}{k:Str->Prop}:yv (.str x) k=k x:=rfl
def yy(d:D)(k:List D->Prop):Prop:=match d with
 |.list x=>k x
 |_=>False
theorem Lq{x:List D}{k:List D->Prop}:yy (.list x) k=k x:=rfl
theorem MT:xm PD te ρ Q=PD ρ λ_ x=>bP x (f:=λx=>yv x λz=>te ρ λ_ y=>bP y (f:=λy=>yy y λys=>∃ zs,oF ys=some zs/\(zs.map (·.length)).sum+zs.length*z.length<=16777216/\Q .sh (.str (Str.join z zs))) ⟨⟩) ⟨⟩:=by unfold xm bP yv yy;rfl
-- places
theorem kE'{P:Bool->D->(Bool->D->Env)->Prop}:DT i ρ P=bP ρ[i]? (f:=λo=>match o with
 |some (some (.ow fl d))=>P fl d λfl2 d2=>ρ.set i (some (.ow fl2 d2))
 |_=>False) ⟨⟩:=rfl
def VD(o:Option Bool)(k:Bool->Prop):Prop:=match o with
 |some b=>k b
 |none=>False
theorem Kl{b:Bool}{k:Bool->Prop}:VD (some b) k=k b:=rfl
theorem Q6:IL p te E ρ=p ρ λfl d up=>bP d (f:=λd=>yy d λxs=>te ρ λm x=>xs.length<sizeLine/\bP (qp fl m x) (f:=λo=>VD o λfl2=>E.nx (up fl2 (.list (xs++[x])))) ⟨⟩) ⟨⟩:=by unfold IL bP yy VD;rfl
theorem KY:Bm ρ Q=Q (.ow true) (.dK []):=rfl
theorem Lx:zA ρ Q=Q (.ow true) (.dT []):=rfl
def dct(d y:D)(k1:List (Key × D)->Prop)(k2:List (List Key × D)->List D->Prop):Prop:=match d with
 |.dK ae=>k1 ae
 |.dT ae=>match y with
  |.tup ys=>k2 ae ys
  |_=>False
 |_=>False
theorem Qe{y:D}{ae:List (Key × D)}{k1:List (Key × D)->Prop}{k2:List (List Key × D)->List D->Prop}:dct (.dK ae) y k1 k2=k1 ae:=rfl
theorem P_{ys:List D}{ae:List (List Key × D)}{k1:List (Key × D)->Prop}{k2:List (List Key × D)->List D->Prop}:dct (.dT ae) (.tup ys) k1 k2=k2 ae ys:=rfl
theorem O_{tk tv:WE}:zN p tk tv E ρ=tv ρ λ_ x=>p ρ λfl d up=>tk ρ λ_ y=>x.flat=true/\bP d (f:=λd=>dct d y (λae=>∃ k,y.key1=some k/\ae.length<sizeLine/\E.nx (up fl (.dK (kG ae k x)))) (λae ys=>∃ ks,iC ys=some ks/\ae.length<sizeLine/\E.nx (up fl (.dT (kG ae ks x))))) ⟨⟩:=by unfold zN bP dct;rfl
-- loops
variable {LQ:List D->Prop}
theorem P0{wi:WI}{g:WG}{b:WS}:An wi g b E ρ=wi ρ λds=>vf g b E ds ρ:=rfl
theorem M7:lB te ρ LQ=te ρ λm d=>pR m/\bP d (f:=λd=>yy d LQ) ⟨⟩:=by unfold lB bP yy;rfl
def VF(d:D)(k:List D->Prop):Prop:=match d with
 |.tup x=>k x
 |_=>False
theorem NZ{x:List D}{k:List D->Prop}:VF (.tup x) k=k x:=rfl
theorem Nj:BL te ρ LQ=te ρ λm d=>pR m/\bP d (f:=λd=>VF d LQ) ⟨⟩:=by unfold BL bP VF;rfl
theorem OD:wU te ρ LQ=te ρ λ_ d=>bP d (f:=λd=>yv d λz=>LQ (IJ z)) ⟨⟩:=by unfold wU bP yv;rfl
theorem Ma:xx te ρ LQ=te ρ λ_ d=>bP d (f:=λd=>int' d λj=>j<=16777216/\-(2 ^ 62)<=j/\LQ (yI 0 j.toNat)) ⟨⟩:=by unfold xx bP int';rfl
theorem Ko:pR .sh=True:=rfl
theorem Ks{b:Bool}:pR (.ow b)=True:=rfl
theorem Ku:pR .bo=False:=rfl
theorem gN_{N:Env->Prop}:gN i d ρ N=N (ρ.set i (some (.sh d))):=rfl
theorem Nf{wi:WI}{g:WG}{tn:Nat}{ix:List Nat}:jB wi g tt te tn ix ρ Q=wi ρ λds=>eN g tt te ds (DY tn ix ρ) λout=>Q (.ow true) (.list out):=rfl
end
theorem B{c:Bool}{f:Bool->Prop}{k:Kt f}(h1:c=true->f true)(h2:c=false->f false):bP c k:=by
 cases c with
 |true=>exact h1 rfl
 |false=>exact h2 rfl
theorem D{p:Prop}[Decidable p]{f:Bool->Prop}{k:Kt f}(h1:p->f true)(h2:¬ p->f false):bP (decide p) k :=
 B (λh=>h1 (of_decide_eq_true h)) λh=>h2 (of_decide_eq_false h)
theorem T{c:Bool}{f:Bool->Prop}{k:Kt f}(h:c=true)(h1:f true):bP c k:=by subst h;exact h1
theorem F{c:Bool}{f:Bool->Prop}{k:Kt f}(h:c=false)(h1:f false):bP c k:=by subst h;exact h1
end L2.Q.R
namespace L2
open PySem PySem.Spec PyProof.Rows
end L2
namespace L2.Q
open PySem PySem.Spec PyProof.Rows
section
variable {p:Pos}
def Pa:W1:=λ_ x Q=>match x with
 |.list xs=>∃ ks b,xs=ks.map oD/\(∀ k∈ks,oz k=b)/\∀ ms:List Key,ms.Perm ks->(ms.Pairwise λa b=>pz b a=false)->Q (.ow true) (.list (ms.map oD))
 |.dK ae=>∃ b,(∀ p∈ae,oz p.1=b)/\∀ ms:List Key,ms.Perm (ae.map (·.1))->(ms.Pairwise λa b=>pz b a=false)->Q (.ow true) (.list (ms.map oD))
 |_=>False
end
abbrev WIL:=Env->(List D->Prop)->Prop
end L2.Q
namespace L2.Q.R
open PySem PySem.Spec PyProof.Rows L2.Q
section
variable {ρ:Env}{Q:Md->L2.Q.D->Prop}{te:WE}{d:L2.Q.D}{a:Addr}{b:Bool}{LQ:List L2.Q.D->Prop}
theorem Nk{f:Option Sl->Prop}{k:Kt f}:bP (some (.lk a b d)) k=f (some (.lk a b d)):=rfl
theorem O5{f:Option (Option Sl)->Prop}{k:Kt f}:bP (some (some (.lk a b d))) k=f (some (some (.lk a b d))):=rfl
theorem MJ:OQ (some (some (.lk a b d))) Q=Q .bo d:=rfl
def kG'(o:Option (Option Sl))(k:Bool->L2.Q.D->Prop):Prop:=match o with
 |some (some (.ow fl d))=>k fl d
 |_=>False
theorem MK{k:Bool->L2.Q.D->Prop}:kG' (some (some (.ow b d))) k=k b d:=rfl
theorem MN:iT te ρ LQ=te ρ λ_ d=>bP d (f:=λd=>yy d LQ) ⟨⟩:=by unfold iT bP yy;rfl
end
end L2.Q.R
namespace L2
open PySem PySem.Spec PyProof.Rows Builtin Builtin.Str Builtin.Int
end L2
namespace L2
open PySem PySem.Spec PyProof.Rows
end L2
namespace L2.Q
open PySem PySem.Spec PyProof.Rows
section
variable {X:Cx}{K:PySem.W.Frag}{e a b:Expr}{ta tb:WE}{p pos:Pos}{x:Str}{id:String}
def Ti:W1:=λ_ x Q=>match x with
 |.list xs=>∃ bs:List Bool,xs=bs.map D.bl/\Q .sh (.bl (bs.all (λb=>b)))
 |_=>False
theorem Jz{H:Hp}{bs:List Bool}{vs:List V}(r:bp K H (bs.map D.bl) vs):vs=bs.map V.bl:=by
 induction bs generalizing vs with
 |nil=>exact r.n0
 |cons b bs ih =>obtain⟨u,us,rfl,r1,rs⟩:=bp.c (d:=D.bl b) r;cases r1;rw[ih rs];rfl
theorem Ex:Bi K (Sx K) Ti:=by
 walk_at"s";walk_at"ad"
 cases r1 with
 |list z s q =>obtain⟨bs,rfl,h⟩:=h;cases Jz q;exact⟨bs,s,f.sh w (.bl _) h⟩
 |_=>exact h.elim
theorem Js:bootBuiltins "max" = some (.builtin "max"):=by decide +kernel
theorem Ij:bootBuiltins "min" = some (.builtin "min"):=by decide +kernel
def GJ:R2:=λx y H Q=>match x,y with
 |.int i,.int j=>Q (.int (if j>i then j else i)) H
 |_,_=>False
def Gb:R2:=λx y H Q=>match x,y with
 |.int i,.int j=>Q (.int (if j<i then j else i)) H
 |_,_=>False
def H_:W2:=λ_ x _ y Q=>match x,y with
 |.int i,.int j=>Q .sh (.int (if j>i then j else i))
 |_,_=>False
def GZ:W2:=λ_ x _ y Q=>match x,y with
 |.int i,.int j=>Q .sh (.int (if j<i then j else i))
 |_,_=>False
theorem Gr:jv K GJ H_:=by
 walk_at"b";walk_at"ad";have r2:=ry.rep w
 cases r1 with
 |int i=>cases r2 with
  |int j=>exact f.sh w (.int _) h
  |_=>exact h.elim
 |_=>cases r2<;>exact h.elim
theorem GC:jv K Gb GZ:=by
 walk_at"b";walk_at"ad";have r2:=ry.rep w
 cases r1 with
 |int i=>cases r2 with
  |int j=>exact f.sh w (.int _) h
  |_=>exact h.elim
 |_=>cases r2<;>exact h.elim
theorem Be{r:R2}{f:W2}(hc:i9 X (.builtin id) λxs H Q=>∃ x y,xs=[x,y]/\r x y H Q)(br:jv K r f)(hg:Gl X x)(hm:X.mg x=none)(hv:bootBuiltins x=some (.builtin id))(ha:QE X K a ta)(hb:QE X K b tb)(hs:starEach [a,b] X.env=(false,eval a X.env) :: starEach [b] X.env:=by rfl) (sf:starEach [b] X.env=(false,eval b X.env) :: starEach [] X.env:=by rfl) (hn:x ≠ "__name__" := by decide) (g7:(x == ("__debug__" : Str))=false:=by decide) (hZ:(backTo pos (starEach [b] X.env)).any (·.1)=false:=by rfl):QE X K (.Call (.Name x p) [a,b] [] pos) (ax f ta tb):=by
 refine PE.imp (R7 hc hg hm hv (mG ha (mG hb rU sf) hs) hn g7 hs hZ) λσ H Qv h=>?_;obtain⟨Hs,ρ,ag,Q,sr,h,fin⟩:=mj br σ H Qv h;exact⟨Hs,ρ,ag,Q,sr,h,λv H1 ay m x As g1 r1 f1 q1=>by
  obtain⟨aI,gp,fq,Q2,ve,h2,fin2⟩:=fin v H1 ay m x As g1 r1 f1 q1;exact⟨aI,gp,fq,Q2,ve,h2,λu H2 iA n y Bs g2 r2 f2 q2=>⟨v,u,rfl,fin2 u H2 iA n y Bs g2 r2 f2 q2⟩⟩⟩
theorem IV (hc:X.calm=true:=by rfl):i9 X (.builtin "max") λxs H Q=>∃ x y,xs=[x,y]/\GJ x y H Q:=λpins s σ H xs us Q I r ck=>by
 obtain⟨x,y,e,q⟩:=ck;subst e;unfold GJ at q;split at q
 ·exact hy' hc pins s σ H _ us Q I r ⟨_,_,rfl,q⟩
 ·exact q.elim
theorem IW (hc:X.calm=true:=by rfl):i9 X (.builtin "min") λxs H Q=>∃ x y,xs=[x,y]/\Gb x y H Q:=λpins s σ H xs us Q I r ck=>by
 obtain⟨x,y,e,q⟩:=ck;subst e;unfold Gb at q;split at q
 ·exact hA' hc pins s σ H _ us Q I r ⟨_,_,rfl,q⟩
 ·exact q.elim
end
end L2.Q
namespace L2.Q.R
open PySem PySem.Spec PyProof.Rows L2.Q
section
variable {Q:Md->L2.Q.D->Prop}{m m':Md}{xs:List L2.Q.D}{a b:Int}
theorem Qp:Ti m (.list xs) Q = ∃ bs:List Bool,xs=bs.map L2.Q.D.bl/\Q .sh (.bl (bs.all (λb=>b))):=rfl
theorem NP:H_ m (.int a) m' (.int b) Q=Q .sh (.int (if b>a then b else a)):=rfl
theorem Oi:GZ m (.int a) m' (.int b) Q=Q .sh (.int (if b<a then b else a)):=rfl
end
end L2.Q.R
namespace L2.Q
open PySem PySem.Spec PyProof.Rows
end L2.Q
namespace TS
open PySem PySem.SetTable
def fk:Nat->Nat->Nat
 |0,s=>s
 |k+1,s=>5*fk k s+1
theorem Jp(a b s:Nat):fk (a+b) s=fk b (fk a s):=by
 induction b with
 |zero=>rfl
 |succ b ih=>show 5*fk (a+b) s+1=5*fk b (fk a s)+1;rw[ih]
theorem Ca(n s:Nat):4*fk n s+1=5 ^ n*(4*s+1):=by
 induction n with
 |zero=>simp[fk]
 |succ n ih =>
  show 4*(5*fk n s+1)+1=5 ^ (n+1)*(4*s+1)
  rw[y1,Rz (5 ^ n) 5,FX,<- ih];lia
theorem Dq(m:Nat):∃ q,5 ^ 2 ^ m=1+2 ^ (m+2)*q/\q % 2=1:=by
 induction m with
 |zero=>exact⟨1,by decide,by decide⟩
 |succ m ih =>
  obtain⟨q,e,o⟩:=ih;refine⟨q+2 ^ (m+1)*(q*q),?_,?_⟩
  ·have hp:5 ^ 2 ^ (m+1)=(5 ^ 2 ^ m) ^ 2:=by rw[y1 2 m,Nat.pow_mul]
   rw[hp,e];clear e hp;have e1:2 ^ (m+1+2)=2*2 ^ (m+2):=by rw[show m+1+2=(m+2)+1 by exact Ee ..,y1];lia
   have e2:2 ^ (m+2)=2*2 ^ (m+1):=by rw[show m+2=(m+1)+1 by rfl,y1];lia
   rw[e1,e2];generalize 2 ^ (m+1)=y;rw[Nat.pow_two];simp only[Nat.mul_add,LJ,EA,Nat.mul_one];have a1:2*y*q*(2*y*q)=2*(2*y)*(y*(q*q)):=by simp only[FX,Nat.mul_left_comm,Rz]
   have a2:2*(2*y)*q=2*y*q+2*y*q:=by rw[FX 2 (2*y) q];lia
   rw[a1,a2];lia
  ·have:2 ^ (m+1)*(q*q) % 2=0:=by rw[y1,Rz (2 ^ m) 2,FX,Nat.mul_mod_right]
   lia
theorem FJ(m x:Nat):∃ r,fk (2 ^ m) x=x+2 ^ m*r/\r % 2=1:=by
 obtain⟨q,e,o⟩:=Dq m;have c:=Ca (2 ^ m) x;rw[e] at c;refine⟨q*(4*x+1),?_,?_⟩
 ·have e2:2 ^ (m+2)=4*2 ^ m:=by rw[Nat.pow_add];lia
  rw[e2,LJ,EA,FX,FX] at c;lia
 ·rw[Nat.mul_mod,o,EA];lia
theorem Kd(m s e:Nat):∃ k,k+1<=2 ^ m/\fk k s % 2 ^ m=e % 2 ^ m:=by
 induction m with
 |zero=>exact⟨0,by decide,by simp[Nat.mod_one]⟩
 |succ m ih =>
  obtain⟨k,hk,h⟩:=ih;have hp:2 ^ (m+1)=2 ^ m*2:=y1 ..;have VG:0<2 ^ m:=Nat.pow_pos (by decide);have key:∀ a:Nat,a % (2 ^ m*2)=a % 2 ^ m+2 ^ m*(a / 2 ^ m % 2):=λa=>Nat.mod_mul;by_cases c:fk k s / 2 ^ m % 2=e / 2 ^ m % 2
  ·exact⟨k,by walk_at "s4",by rw[hp,key,key,h,c]⟩
  ·refine⟨k+2 ^ m,by lia,?_⟩;obtain⟨r,er,ro⟩:=FJ m (fk k s);rw[Jp,er,hp,key,key,Nat.add_mul_mod_self_left,h,Nat.add_mul_div_left _ _ VG];have:(fk k s / 2 ^ m+r) % 2=e / 2 ^ m % 2:=by lia
   rw[this]
def rh(M:Nat)(p:Probe):Probe :=
 if p.more>0 then { p with j:=p.j+1,more:=p.more-1 } else
 { p with j:=(leap M p.i p.perturb).1,more:=runEnd M (leap M p.i p.perturb).1-(leap M p.i p.perturb).1,i:=(leap M p.i p.perturb).1,perturb:=(leap M p.i p.perturb).2 }
def ps(M:Nat)(h:Int):Nat->Probe
 |0=>{ j:=bits h % (M+1),more:=runEnd M (bits h % (M+1))-bits h % (M+1),i:=bits h % (M+1),perturb:=bits h,dummy:=none }
 |n+1=>rh M (ps M h n)
def J(M:Nat)(h:Int)(n:Nat):Nat:=(ps M h n).j
theorem wZ{M i:Nat}(h:i<=M):i<=runEnd M i/\runEnd M i<=M/\runEnd M i<=i+9:=by unfold runEnd;split<;>lia
theorem G4(M:Nat)(h:Int):∀ n,(ps M h n).i<=M/\(ps M h n).j+(ps M h n).more<=M/\(ps M h n).dummy=none/\(ps M h n).more<=9
 |0=>by have h0:bits h % (M+1)<=M:=Rt (FY _ (ti _));have:=wZ h0;exact⟨h0,by show bits h % (M+1)+(runEnd M (bits h % (M+1))-bits h % (M+1))<=M;lia,rfl,by show runEnd M (bits h % (M+1))-bits h % (M+1)<=9;lia⟩
 |n+1=>by
  obtain⟨a,b,c,d⟩:=G4 M h n;show(rh M (ps M h n)).i<=M/\_/\(rh M (ps M h n)).dummy=none/\_;unfold rh;by_cases hm:(ps M h n).more>0
  ·simp only[hm,if_true];walk_at"aq";simp only[rh,hm,if_true];exact⟨a,by lia,c,by walk_at "s4"⟩
  ·simp only[hm,if_false];walk_at"aq";simp only[rh,hm,if_false];have h0:(leap M (ps M h n).i (ps M h n).perturb).1<=M:=Rt (FY _ (ti _));have:=wZ h0;exact⟨h0,by lia,c,by lia⟩
theorem Tj(M:Nat)(h:Int)(n:Nat):J M h n<=M:=by have:=G4 M h n;unfold J;lia
theorem Aw(M:Nat)(h:Int)(n:Nat):∀ r,r<=(ps M h n).more->ps M h (n+r)={ ps M h n with j:=(ps M h n).j+r,more:=(ps M h n).more-r }
 |0,_=>rfl
 |r+1,hr=>by show rh M (ps M h (n+r))=_;rw[Aw M h n r (by exact ky ‹_›)];unfold rh;rw[if_pos (show(ps M h n).more-r>0 by lia)];simp only[Probe.mk.injEq,true_and,and_true];walk_at "s1"
def lp(M:Nat)(h:Int):Nat->Nat × Nat
 |0=>(bits h % (M+1),bits h)
 |k+1=>leap M (lp M h k).1 (lp M h k).2
def jS(M:Nat)(h:Int):Nat->Nat
 |0=>0
 |k+1=>jS M h k+(runEnd M (lp M h k).1-(lp M h k).1)+1
theorem Hg(M:Nat)(h:Int):∀ k,(lp M h k).1<=M
 |0=>Rt (FY _ (ti _))
 |k+1=>Rt (FY _ (ti _))
theorem Ae(M:Nat)(h:Int):∀ k,jS M h k<=10*k
 |0=>bE _
 |k+1=>by have:=Ae M h k;have:=wZ (Hg M h k);show jS M h k+_+1<=_;lia
theorem xK(M:Nat)(h:Int):∀ k,ps M h (jS M h k)={ j:=(lp M h k).1,more:=runEnd M (lp M h k).1-(lp M h k).1,i:=(lp M h k).1,perturb:=(lp M h k).2,dummy:=none }
 |0=>rfl
 |k+1=>by have ih:=xK M h k;have e:=Aw M h (jS M h k) (runEnd M (lp M h k).1-(lp M h k).1) (by rw[ih];exact bE _);show rh M (ps M h (jS M h k+(runEnd M (lp M h k).1-(lp M h k).1)))=_;rw[e,ih];unfold rh;rw[if_neg (by simp)];rfl
theorem Ek(M:Nat)(h:Int):∀ k,(lp M h k).2=bits h / 32 ^ k
 |0=>by simp[lp]
 |k+1=>by show(lp M h k).2 / 32=_;rw[Ek M h k,Nat.div_div_eq_div_mul,y1]
theorem Gm(h:Int):bits h<2 ^ 64:=by unfold bits;have h1:=RH h (show(2 ^ 64:Int)≠0 by decide);have h2:=RG h (show(0:Int)<2 ^ 64 by decide);lia
theorem zT(M:Nat)(h:Int):∀ k,(lp M h (13+k)).1 % (M+1)=fk k (lp M h 13).1 % (M+1)
 |0=>rfl
 |k+1=>by
  have e:(lp M h (13+k)).2=0:=by rw[Ek];refine Nat.div_eq_of_lt (lP (Gm h) ?_);exact fP (by decide:2 ^ 64<=32 ^ 13) (Nat.pow_le_pow_right (by decide) (by exact xv _ _))
  show(leap M (lp M h (13+k)).1 (lp M h (13+k)).2).1 % (M+1)=_;unfold leap;rw[e];show((lp M h (13+k)).1*5+1+0 / 32) % (M+1) % (M+1)=(5*fk k (lp M h 13).1+1) % (M+1);rw[Nat.mod_mod,Nat.zero_div,LH,Nat.add_mod,Nat.mul_mod,zT M h k,<- Nat.mul_mod,<- Nat.add_mod,Rz]
theorem cover{M m:Nat}(hM:M+1=2 ^ m)(h:Int){e:Nat}(he:e<=M):∃ k,k<=M+13/\(lp M h k).1=e:=by obtain⟨k,hk,q⟩:=Kd m (lp M h 13).1 e;rw[<- hM] at hk q;refine⟨13+k,by lia,?_⟩;have:=zT M h k;rw[q] at this;rwa[Nat.mod_eq_of_lt (wc (Hg M h _)),Nat.mod_eq_of_lt (wc he)] at this
theorem Kf(M:Nat)(h:Int)(k:Nat):J M h (jS M h k)=(lp M h k).1:=by unfold J;rw[xK]
theorem qe{M m:Nat}(hM:M+1=2 ^ m)(h:Int)(iS:Nat->Bool){e:Nat}(he:e<=M)(hf:iS e=false):∃ n,n<=10*(M+13)/\iS (J M h n)=false/\∀ k<n,iS (J M h k)=true:=by
 obtain⟨k,hk,q⟩:=cover hM h he;have hb:=Ae M h k;have hB:iS (J M h (jS M h k))=false:=by rw[Kf,q];exact hf
 generalize jS M h k=b at hb hB;have go:∀ b,iS (J M h b)=false->∃ n,n<=b/\iS (J M h n)=false/\∀ k<n,iS (J M h k)=true:=by
  intro b
  induction b using Nat.strongRecOn with
  |ind b ih =>
   intro hB;by_cases c:∃ k,k<b/\iS (J M h k)=false
   ·obtain⟨k,h1,h2⟩:=c;obtain⟨n,a1,a2,a3⟩:=ih k h1 h2;exact⟨n,by walk_at "s2",a2,a3⟩
   ·refine⟨b,bE _,hB,λk hk=>?_⟩
    cases z:iS (J M h k) with
    |true=>rfl
    |false=>exact absurd ⟨k,hk,z⟩ c
 obtain⟨n,a1,a2,a3⟩:=go b hB;exact⟨n,by lia,a2,a3⟩
def Up(xs:Array Nat):Prop:=∀ i j:Nat,i<j->j<xs.size->xs.getD i 0<xs.getD j 0
theorem xV{xs:Array Nat}{i d d':Nat}(h:i<xs.size):xs.getD i d=xs.getD i d':=by simp[Array.getD,h]
theorem sW{xs:Array Nat}(U:Up xs)(j:Nat):∀ (fuel lo hi:Nat),hi-lo<=fuel->lo<=hi->hi<=xs.size->(∀ i<lo,xs.getD i 0<j)->(∀ i,hi<=i->i<xs.size->j<=xs.getD i 0) ->
  below.go xs j fuel lo hi<=xs.size/\(∀ i<below.go xs j fuel lo hi,xs.getD i 0<j)/\(∀ i,below.go xs j fuel lo hi<=i->i<xs.size->j<=xs.getD i 0)
 |0,lo,hi,hf,h1,h2,h3,h4=>by
  obtain rfl:lo=hi:=by lia
  exact⟨h2,h3,h4⟩
 |fuel+1,lo,hi,hf,h1,h2,h3,h4=>by
  unfold below.go;by_cases c:lo<hi
  ·rw[if_pos c];dsimp only;have hm:(lo+hi) / 2<xs.size:=by lia
   by_cases d:xs.getD ((lo+hi) / 2) j<j
   ·rw[if_pos d];rw[xV (d':=0) hm] at d;refine sW U j fuel _ _ (by lia) (by lia) h2 (λi js=>?_) h4;by_cases e:i=(lo+hi) / 2
    ·rw[e];exact d
    ·exact Ru (U i _ (by lia) hm) d
   ·rw[if_neg d];rw[xV (d':=0) hm] at d;refine sW U j fuel _ _ (by lia) (by lia) (by exact ky ‹_›) h3 λi js hs=>?_;by_cases e:i=(lo+hi) / 2
    ·rw[e];exact qa ‹_›
    ·have:=U ((lo+hi) / 2) i (by lia) hs;lia
  ·rw[if_neg c];obtain rfl:lo=hi:=by lia
   exact⟨h2,h3,h4⟩
theorem a_{xs:Array Nat}(U:Up xs)(j:Nat):below xs j<=xs.size/\(∀ i<below xs j,xs.getD i 0<j)/\(∀ i,below xs j<=i->i<xs.size->j<=xs.getD i 0) :=
 sW U j xs.size 0 xs.size (by exact Rv _ _) (by exact dy _) (bE _) (λi h=>absurd h (D9 i)) λi h1 h2=>by lia
theorem below_at{xs:Array Nat}(U:Up xs){i:Nat}(h:i<xs.size):below xs (xs.getD i 0)=i:=by
 obtain⟨a,b,c⟩:=a_ U (xs.getD i 0);by_cases h1:below xs (xs.getD i 0)<i
 ·have:=c _ (bE _) (by walk_at "s2");have:=U _ i h1 h;lia
 ·by_cases h2:i<below xs (xs.getD i 0)
  ·have:=b i h2;exact absurd ‹_› (oi _)
  ·lia
theorem yQ{xs:Array Nat}(U:Up xs){i:Nat}(h:i<xs.size):below xs (xs.getD i 0+1)=i+1:=by
 obtain⟨a,b,c⟩:=a_ U (xs.getD i 0+1);by_cases h1:below xs (xs.getD i 0+1)<i+1
 ·have:=c i (by lia) h;exact absurd ‹_› (oi _)
 ·by_cases h2:i+1<below xs (xs.getD i 0+1)
  ·have:=b (i+1) h2;have:=U i (i+1) (by exact bE _) (by walk_at "s1");lia
  ·lia
def taken(xs:Array Nat)(j:Nat):Bool:=xs[below xs j]? == some j
theorem Bj{xs:Array Nat}{i j:Nat}(h:xs[i]? = some j):i<xs.size/\xs.getD i 0=j:=by obtain⟨h1,h2⟩:=y3.mp h;exact⟨h1,by simp[Array.getD,h1,h2]⟩
theorem zz{xs:Array Nat}{i:Nat}(h:i<xs.size):xs[i]? = some (xs.getD i 0):=by simp[Array.getD,h]
theorem il{xs:Array Nat}(U:Up xs){j:Nat}:taken xs j=true↔∃ i,i<xs.size/\xs.getD i 0=j:=by
 unfold taken;rw[beq_iff_eq];constructor
 ·intro h;exact⟨_,Bj h⟩
 ·rintro⟨i,h,rfl⟩;rw[below_at U h];exact zz h
theorem lW{xs:Array Nat}(U:Up xs){j:Nat}(h:taken xs j=true):below xs j<xs.size/\xs.getD (below xs j) 0=j:=by unfold taken at h;rw[beq_iff_eq] at h;exact Bj h
theorem cg{α:Type}(xs:Array α){p:Nat}(x:α)(h:p<=xs.size):(insertAt xs p x).size=xs.size+1:=by unfold insertAt;simp;lia
theorem R5{α:Type}(xs:Array α){p:Nat}(x:α)(h:p<=xs.size)(i:Nat):(insertAt xs p x)[i]? = if i<p then xs[i]? else if i=p then some x else xs[i-1]? := by
 unfold insertAt;have hs:((xs.extract 0 p).push x).size=p+1:=by simp;exact Nat.min_eq_left ‹_›
 by_cases h1:i<p
 ·rw[if_pos h1,Array.getElem?_append_left (by lia),Array.getElem?_push,if_neg (by simp;lia),RC];rw[if_pos (by lia)];simp
 ·rw[if_neg h1];by_cases h2:i=p
  ·rw[if_pos h2,Array.getElem?_append_left (by lia),Array.getElem?_push,if_pos (by simp;lia)]
  ·rw[if_neg h2,Array.getElem?_append_right (by lia),hs,RC];by_cases h3:i-(p+1)<min xs.size xs.size-p
   ·rw[if_pos h3];congr 1;lia
   ·rw[if_neg h3,GL (by lia)]
theorem fj{xs:Array Nat}{p x:Nat}(h:p<=xs.size)(i:Nat):(insertAt xs p x).getD i 0=if i<p then xs.getD i 0 else if i=p then x else xs.getD (i-1) 0:=by
 have e:∀ (ys:Array Nat) (k:Nat),ys.getD k 0=ys[k]?.getD 0:=λys k=>by simp[B7]
 rw[e,R5 xs x h];split
 ·rw[e]
 ·split
  ·rfl
  ·rw[e]
theorem Es{xs:Array Nat}(U:Up xs){j:Nat}(hj:taken xs j=false):Up (insertAt xs (below xs j) j):=by
 obtain⟨a,b,c⟩:=a_ U j;have ne:∀ i,i<xs.size->xs.getD i 0≠j:=λi hi e=>by have:=(il U (j:=j)).mpr ⟨i,hi,e⟩;rw[hj] at this;cases this
 intro i k hik hk;rw[cg xs j a] at hk;rw[fj a,fj a];by_cases h1:k<below xs j
 ·rw[if_pos (by walk_at "s2"),if_pos h1];exact U i k hik (by walk_at "s1")
 ·rw[if_neg h1];by_cases h2:k=below xs j
  ·rw[if_pos h2,if_pos (by lia)];exact b i (by lia)
  ·rw[if_neg h2];by_cases h3:i<below xs j
   ·rw[if_pos h3];exact U i (k-1) (by lia) (by lia)
   ·rw[if_neg h3];by_cases h4:i=below xs j
    ·rw[if_pos h4];have:=c (k-1) (by lia) (by lia);have:=ne (k-1) (by lia);lia
    ·rw[if_neg h4];exact U (i-1) (k-1) (by lia) (by lia)
theorem Ce{xs:Array Nat}(U:Up xs){j k:Nat}(hj:taken xs j=false):taken (insertAt xs (below xs j) j) k=(decide (k=j) || taken xs k):=by
 have a:=(a_ U j).1;have U':=Es U hj;apply y2.mpr;rw[il U',Bool.or_eq_true,decide_eq_true_eq,il U];rw[cg xs j a];constructor
 ·rintro⟨i,hi,e⟩;rw[fj a] at e;by_cases h1:i<below xs j
  ·rw[if_pos h1] at e;exact .inr ⟨i,by lia,e⟩
  ·rw[if_neg h1] at e;by_cases h2:i=below xs j
   ·rw[if_pos h2] at e;exact .inl e.symm
   ·rw[if_neg h2] at e;exact .inr ⟨i-1,by lia,e⟩
 ·rintro(rfl|⟨i,hi,e⟩)
  ·exact⟨below xs k,by exact wc ‹_›,by rw[fj a,if_neg (by lia),if_pos rfl]⟩
  ·by_cases h1:i<below xs j
   ·exact⟨i,by exact rz ‹_›,by rw[fj a,if_pos h1];exact e⟩
   ·exact⟨i+1,by exact wc ‹_›,by rw[fj a,if_neg (by lia),if_neg (by lia)];exact e⟩
def Reach(M:Nat)(place:Array Nat)(h:Int)(j:Nat):Prop:=∃ n,n<=10*(M+13)/\J M h n=j/\∀ k<n,taken place (J M h k)=true
structure TI{α:Type}(t:SetTable)(es:Array (Int × α)):Prop where
 pw:∃ m,t.mask+1=2 ^ m/\3<=m
 sz:t.place.size=es.size
 up:Up t.place
 le:∀ i,i<t.place.size->t.place.getD i 0<=t.mask
 dm:t.dummies = #[]
 few:es.size*5<t.mask*3
 path:∀ i h x,es[i]? = some (h,x)->Reach t.mask t.place h (t.place.getD i 0)
section
variable {α:Type}{t:SetTable}{es:Array (Int × α)}
theorem TI.slot(T:TI t es)(j:Nat):t.slot j=if taken t.place j then .live (below t.place j) else .empty:=by
 unfold SetTable.slot taken;dsimp only;split
 ·rfl
 ·have:has t.dummies j=false:=by rw[T.dm];rfl
  rw[this];rfl
theorem TI.fits(T:TI t es):t.fits es.size=true:=by have:=T.few;simp only[SetTable.fits,fill,T.dm,T.sz,i7,beq_iff_eq,decide_eq_true_eq,true_and];simp;lia
theorem TI.odd(T:TI t es):t.gaveWay=false:=by
 obtain⟨m,h,h3⟩:=T.pw;unfold SetTable.gaveWay;rw[beq_eq_false_iff_ne];have:2 ^ m=2*2 ^ (m-1):=by rw[show m=(m-1)+1 by lia,y1];simp;lia
 lia
theorem TI.free(T:TI t es):∃ e,e<=t.mask/\taken t.place e=false:=by
 have hf:=T.few;have hs:=T.sz;by_cases c:∃ e,e<=t.mask/\taken t.place e=false
 ·exact c
 ·exfalso;have all:∀ e,e<=t.mask->taken t.place e=true:=λe he=>by
   cases z:taken t.place e with
   |true=>rfl
   |false=>exact absurd ⟨e,he,z⟩ c
  -- slot e stands at place at most e
  have go:∀ e,e<=t.mask->e<=below t.place e:=by
   intro e
   induction e with
   |zero=>intro _;exact dy _
   |succ e ih =>
    intro he;have h1:=lW T.up (all e (by exact ky ‹_›));have h2:=lW T.up (all (e+1) he);have:=ih (by exact ky ‹_›);obtain⟨_,b,c⟩:=a_ T.up (e+1);by_cases z:below t.place e<below t.place (e+1)
    ·walk_at "s1"
    ·have:=c (below t.place e) (by exact qa ‹_›) h1.1;lia
  have:=go t.mask (bE _);have:=(lW T.up (all t.mask (bE _))).1;lia
theorem TI.put(T:TI t es){h:Int}{x:α}{j:Nat}(hj:j<=t.mask)(hn:taken t.place j=false)(hr:Reach t.mask t.place h j){t':SetTable}(ht:t'.mask=t.mask)(hp:t'.place=insertAt t.place (below t.place j) j)(hd:t'.dummies = #[])(hf:(es.size+1)*5<t.mask*3):TI t' (insertAt es (below t.place j) (h,x)):=by
 have a:=(a_ T.up j).1;have a':below t.place j<=es.size:=by rw[<- T.sz];exact a
 refine⟨by rw[ht];exact T.pw,by rw[hp,cg _ _ a,cg _ _ a',T.sz],by rw[hp];exact Es T.up hn,λi hi=>?_,hd,by rw[cg _ _ a',ht];exact hf,λi g y e=>?_⟩
 ·rw[hp,cg _ _ a] at hi;rw[hp,fj a,ht];split
  ·exact T.le i (by walk_at "s1")
  ·split
   ·exact hj
   ·exact T.le (i-1) (by lia)
 ·have mono:∀ {g:Int} {k:Nat},Reach t.mask t.place g k->Reach t'.mask t'.place g k:=λ{g k} ⟨n,h1,h2,h3⟩=>⟨n,by rw[ht];exact h1,by rw[ht];exact h2,λq hq=>by
   rw[hp,ht,Ce T.up hn,h3 q hq,Bool.or_true]⟩
  rw[R5 es _ a'] at e;rw[hp,fj a,<- hp];by_cases h1:i<below t.place j
  ·rw[if_pos h1] at e ⊢;exact mono (T.path i g y e)
  ·rw[if_neg h1] at e ⊢;by_cases h2:i=below t.place j
   ·rw[if_pos h2] at e ⊢;cases e;exact mono hr
   ·rw[if_neg h2] at e ⊢;exact mono (T.path (i-1) g y e)
end
theorem cR{α:Type}[DecidableEq α]:∀ {l m:List α},l.Nodup->(∀ x∈l,x∈m)->l.length<=m.length
 |[],_,_,_=>dy _
 |x :: l,m,nd,h=>by rw[ny] at nd;have hx:=h x dv;have:=cR (l:=l) (m:=m.erase x) nd.2 λy hy=>(List.mem_erase_of_ne (λe=>nd.1 (by rw[<- e];exact hy))).mpr (h y (cK _ hy));rw[List.length_erase_of_mem hx] at this;have:0<m.length:=List.length_pos_of_mem hx;simp only[oP];lia
def iS(owner:Array (Option Nat))(j:Nat):Bool:=(owner.getD j (some 0)).isSome
theorem uQ{M:Nat}(h:Int)(owner:Array (Option Nat)):∀ (fuel k:Nat),(∀ q<jS M h k,iS owner (J M h q)=true)->(∃ K,k<=K/\K<k+fuel/\K<=M+13/\iS owner (lp M h K).1=false) ->
  ∃ j n,layClean.free M owner fuel (lp M h k).1 (lp M h k).2=some j/\J M h n=j/\n<=10*(M+13)/\iS owner j=false/\∀ q<n,iS owner (J M h q)=true
 |0,k,_,⟨K,h1,h2,_⟩=>by lia
 |fuel+1,k,hq,⟨K,h1,h2,h3,h4⟩=>by
  have VH:∀ r,r<=runEnd M (lp M h k).1-(lp M h k).1->J M h (jS M h k+r)=(lp M h k).1+r:=λr hr=>by unfold J;rw[Aw M h (jS M h k) r (by rw[xK];exact hr),xK]
  have hle:=wZ (Hg M h k);have e:∀ r,(owner.getD ((lp M h k).1+r) (some 0)).isNone = !iS owner ((lp M h k).1+r):=λr=>by unfold iS;cases owner.getD ((lp M h k).1+r) (some 0)<;>rfl
  unfold layClean.free
  cases hf:(List.range (runEnd M (lp M h k).1+1-(lp M h k).1)).find? λr=>(owner.getD ((lp M h k).1+r) (some 0)).isNone with
  |some r =>
   obtain⟨a1,a2,a3⟩:=List.find?_range_eq_some.mp hf;have a2:r<runEnd M (lp M h k).1+1-(lp M h k).1:=by simpa using a2
   rw[e] at a1;have a1:iS owner ((lp M h k).1+r)=false:=by simpa using a1
   have occs:∀ q<jS M h k+r,iS owner (J M h q)=true:=λq Tn=>by
    by_cases z:q<jS M h k
    ·exact hq q z
    ·have:=a3 (q-jS M h k) (by lia);rw[e] at this;have hj:=VH (q-jS M h k) (by lia);rw[show jS M h k+(q-jS M h k)=q by exact si (qa ‹_›)] at hj;rw[hj];walk_at"aI"
   refine⟨_,jS M h k+r,rfl,VH r (by lia),?_,a1,occs⟩;have hb:=Ae M h K;by_cases z:jS M h k+r<=jS M h K
   ·lia
   ·have:=occs (jS M h K) (by exact FU ‹_›);rw[Kf,h4] at this;cases this
  |none =>
   have hn:=List.find?_eq_none.mp hf;have du':∀ r,r<=runEnd M (lp M h k).1-(lp M h k).1->iS owner ((lp M h k).1+r)=true:=λr hr=>by have:=hn r (by simp;lia);rw[e] at this;walk_at"aI"
   dsimp only;have hK:K≠k:=λz=>by subst z;have:=du' 0 (dy _);rw[LH,h4] at this;cases this
   refine uQ h owner fuel (k+1) (λq Tn=>?_) ⟨K,by lia,by lia,h3,h4⟩;by_cases z:q<jS M h k
   ·exact hq q z
   ·have Tn:q<jS M h k+(runEnd M (lp M h k).1-(lp M h k).1)+1:=Tn;have hj:=VH (q-jS M h k) (by lia);rw[show jS M h k+(q-jS M h k)=q by exact si (qa ‹_›)] at hj;rw[hj];exact du' _ (by lia)
structure OI(M:Nat)(hs:List Int)(owner:Array (Option Nat)):Prop where
 sz:owner.size=M+1
 lt:∀ j v:Nat,owner[j]? = some (some v)->v<hs.length
 inj:∀ j j' v:Nat,owner[j]? = some (some v)->owner[j']? = some (some v)->j=j'
 all:∀ v:Nat,v<hs.length->∃ j:Nat,owner[j]? = some (some v)
 path:∀ j v:Nat,owner[j]? = some (some v)->∃ n,n<=10*(M+13)/\J M (hs.getD v 0) n=j/\∀ q<n,iS owner (J M (hs.getD v 0) q)=true
theorem wI{owner:Array (Option Nat)}{j:Nat}(h:j<owner.size):iS owner j=true↔∃ v,owner[j]? = some (some v):=by
 unfold iS;rw[y4 h];simp only[Array.getD,h,dite_true,Option.some.injEq]
 cases hh:owner[j] with
 |none =>have:owner.getInternal j h=none:=hh;rw[this];simp
 |some v =>have:owner.getInternal j h=some v:=hh;rw[this];simp
theorem OI.free{M:Nat}{hs:List Int}{owner:Array (Option Nat)}(O:OI M hs owner)(hl:hs.length<=M):∃ e,e<=M/\iS owner e=false:=by
 by_cases c:∃ e,e<=M/\iS owner e=false
 ·exact c
 ·exfalso;have all:∀ e,e<=M->∃ v,owner[e]? = some (some v):=λe he=>by
   refine(wI (by rw[O.sz];exact wc ‹_›)).mp ?_
   cases z:iS owner e with
   |true=>rfl
   |false=>exact absurd ⟨e,he,z⟩ c
  have nd:((List.range (M+1)).map λj=>(owner.getD j none).getD 0).Nodup:=by rw[T4,wa];refine List.Pairwise.imp_of_mem ?_ (T4.mp List.nodup_range);intro a b ha hb kf z;obtain⟨va,ea⟩:=all a (by have:=rq.mp ha;lia);obtain⟨vb,eb⟩:=all b (by have:=rq.mp hb;lia);rw[B7,B7,ea,eb] at z;have z:va=vb:=z;subst z;exact kf (O.inj _ _ _ ea eb)
  have:=cR (m:=List.range hs.length) nd λx hx=>by obtain⟨j,hj,rfl⟩:=de.mp hx;obtain⟨v,e⟩:=all j (by have:=rq.mp hj;lia);rw[B7,e];exact rq.mpr (O.lt _ _ e)
  simp at this;lia
theorem OI.lay{M m:Nat}{hs:List Int}{owner:Array (Option Nat)}(hM:M+1=2 ^ m)(O:OI M hs owner)(hl:hs.length<=M)(h:Int) :
  ∃ j,layClean.free M owner (turns M) (bits h % (M+1)) (bits h)=some j/\OI M (hs++[h]) (owner.setIfInBounds j (some hs.length)):=by
 obtain⟨e,he,hf⟩:=O.free hl;obtain⟨K,hK,hKe⟩:=cover hM h he;obtain⟨j,n,e1,e2,e3,e4,e5⟩:=uQ h owner (turns M) 0 (λq hq=>absurd hq (D9 q)) ⟨K,dy _,by unfold turns;lia,hK,by rw[hKe];exact hf⟩;refine⟨j,e1,?_⟩;have hj:j<owner.size:=by rw[O.sz,<- e2];exact wc (Tj M h n)
 have get:∀ i,(owner.setIfInBounds j (some hs.length))[i]? = if j=i then some (some hs.length) else owner[i]? := λi=>by
  rw[xcu];by_cases z:j=i
  ·subst z;simp[hj]
  ·simp[z]
 have oc:∀ i,iS owner i=true->iS (owner.setIfInBounds j (some hs.length)) i=true:=λi hi=>by
  unfold iS at hi ⊢;rw[B7] at hi ⊢;rw[get];split
  ·rfl
  ·exact hi
 have kf:∀ v,owner[j]?≠some (some v):=λv z=>by have:=(wI hj).mpr ⟨v,z⟩;rw[e4] at this;cases this
 refine⟨by rw[Array.size_setIfInBounds];exact O.sz,λi v z=>?_,λi i' v z z'=>?_,λv hv=>?_,λi v z=>?_⟩
 ·rw[get] at z;split at z
  ·cases z;simp
  ·have:=O.lt i v z;simp;exact rz ‹_›
 ·rw[get] at z z';split at z
  ·cases z;split at z'
   ·lia
   ·exact absurd (O.lt _ _ z') (oi _)
  ·split at z'
   ·cases z';exact absurd (O.lt _ _ z) (oi _)
   ·exact O.inj i i' v z z'
 ·simp at hv;by_cases c:v=hs.length
  ·exact⟨j,by rw[get,if_pos rfl,c]⟩
  ·obtain⟨i,hi⟩:=O.all v (by lia);refine⟨i,?_⟩;rw[get,if_neg (λz=>kf v (by rw[z];exact hi))];exact hi
 ·rw[get] at z;split at z
  ·rename_i hji;cases z;refine⟨n,e3,?_,λq hq=>oc _ ?_⟩
   ·rw[Kx,vF (bE _)];simp[e2,hji]
   ·have:=e5 q hq;rw[Kx,vF (bE _)];walk_at"aI"
  ·have hv:=O.lt i v z;obtain⟨n',a1,a2,a3⟩:=O.path i v z;have eg:(hs++[h]).getD v 0=hs.getD v 0:=by rw[Kx,Kx,BQ hv]
   rw[eg];exact⟨n',a1,a2,λq hq=>oc _ (a3 q hq)⟩
theorem OI.nil(M:Nat):OI M [] (Array.replicate (M+1) none):=by
 have no:∀ (j v:Nat),¬ (Array.replicate (M+1) (none:Option Nat))[j]? = some (some v):=λj v z=>by rw[Array.getElem?_replicate] at z;split at z<;>cases z
 exact⟨by simp,λj v z=>absurd z (no j v),λj j' v z _=>absurd z (no j v),λv hv=>absurd hv (D9 v),λj v z=>absurd z (no j v)⟩
theorem Gf{M m:Nat}(hM:M+1=2 ^ m)(hs:Array Int)(hl:hs.size<=M):∃ owner,layClean M hs=some owner/\OI M hs.toList owner:=by
 have go:∀ (l pre:List Int) (owner:Array (Option Nat)),OI M pre owner->pre.length+l.length<=M->∃ dv',l.foldl (λacc h=>do
   let (owner,k) ← acc
   let j ← layClean.free M owner (turns M) (bits h % (M+1)) (bits h)
   pure (owner.setIfInBounds j (some k),k+1)) (some (owner,pre.length))=some (dv',pre.length+l.length)/\OI M (pre++l) dv':=by
  intro l
  induction l with
  |nil=>intro pre owner O _;exact⟨owner,rfl,by rw[og];exact O⟩
  |cons h l ih =>
   intro pre owner O hz;rw[oP] at hz;obtain⟨j,e,O'⟩:=O.lay hM (by lia) h;obtain⟨o2,e2,O2⟩:=ih (pre++[h]) _ O' (by simp;lia);refine⟨o2,?_,by rw[vT] at O2;exact O2⟩;rw[List.foldl_cons];have:(do
    let (owner,k) ← (some (owner,pre.length):Option (Array (Option Nat) × Nat))
    let j ← layClean.free M owner (turns M) (bits h % (M+1)) (bits h)
    pure (owner.setIfInBounds j (some k),k+1))=some (owner.setIfInBounds j (some pre.length),(pre++[h]).length):=by
    simp[e]
   rw[this,e2];simp;exact Nat.add_right_comm ..
 obtain⟨o,e,O⟩:=go hs.toList [] _ (OI.nil M) (by simpa using hl);refine⟨o,?_,by simpa using O⟩;unfold layClean;rw[<- Array.foldl_toList];have e':=e;simp only[List.length_nil] at e';rw[e'];rfl
theorem lD{n:Nat}:∀ (fuel a:Nat),3<=a->n<2 ^ (a+fuel)->∃ b,3<=b/\sizeAbove.go n fuel (2 ^ a)=2 ^ b/\n<2 ^ b/\(2 ^ b<=2*n\/b=a)
 |0,a,ha,h=>⟨a,ha,rfl,by simpa using h,.inr rfl⟩
 |fuel+1,a,ha,h=>by
  unfold sizeAbove.go;by_cases c:2 ^ a<=n
  ·rw[if_pos c];obtain⟨b,h1,h2,h3,h4⟩:=lD fuel (a+1) (by exact rz ‹_›) (by rw[show a+1+fuel=a+(fuel+1) by exact Nat.add_right_comm ..];exact h);refine⟨b,h1,by rw[y1] at h2;exact h2,h3,?_⟩;rcases h4 with h4|h4
   ·exact .inl h4
   ·left;rw[h4,y1];lia
  ·rw[if_neg c];exact⟨a,ha,rfl,by exact FU ‹_›,.inr rfl⟩
theorem pO{n:Nat}(h:n<2 ^ 60):∃ b,3<=b/\sizeAbove n=2 ^ b/\n<2 ^ b/\(2 ^ b<=2*n\/b=3) :=
 lD 64 3 (bE _) (Ru h (by decide))
section
variable {α:Type}
def bW(M:Nat)(owner:Array (Option Nat)):List (Nat × Nat):=(List.range (M+1)).filterMap λj=>(owner.getD j none).map (j,·)
theorem gr{M:Nat}{owner:Array (Option Nat)}{p:Nat × Nat}:p∈bW M owner↔p.1<M+1/\owner[p.1]? = some (some p.2):=by
 unfold bW;rw[Ub];constructor
 ·rintro⟨j,hj,e⟩;rw[B7] at e
  cases h:owner[j]? with
  |none=>rw[h] at e;cases e
  |some o =>
   rw[h] at e
   cases o with
   |none=>cases e
   |some v =>cases e;exact⟨rq.mp hj,h⟩
 ·rintro⟨h1,h2⟩;exact⟨p.1,rq.mpr h1,by rw[B7,h2];rfl⟩
theorem vJ(M:Nat)(owner:Array (Option Nat)):((bW M owner).map (·.1)).Pairwise (· < ·):=by
 unfold bW;rw[wa,List.pairwise_filterMap];refine List.Pairwise.imp ?_ List.pairwise_lt_range;intro a b Fh p hp q hq
 cases h1:owner.getD a none with
 |none=>rw[h1] at hp;cases hp
 |some x =>
  cases h2:owner.getD b none with
  |none=>rw[h2] at hq;cases hq
  |some y =>rw[h1] at hp;rw[h2] at hq;cases hp;cases hq;exact Fh
theorem xQ{l:List Nat}(h:l.Pairwise (· < ·)):Up l.toArray:=λi j kF hj=>by
 have hj:j<l.length:=by simpa using hj
 have:=T6.mp h i j (by walk_at "s1") hj kF;have e:∀ k (hk:k<l.length),l.toArray.getD k 0=l[k]:=λk hk=>by simp[Array.getD,hk]
 rw[e i (by walk_at "s1"),e j hj];exact this
theorem yl{β:Type}{f:α->Option β}:∀ {l:List α},(∀ x∈l,(f x).isSome=true)->(l.filterMap f).length=l.length/\∀ i:Nat,(l.filterMap f)[i]? = (l[i]?).bind f
 |[],_=>⟨rfl,λi=>by simp⟩
 |x :: l,h=>by
  obtain⟨a,b⟩:=yl (f:=f) (l:=l) λy hy=>h y (cK _ hy);have hx:=h x dv
  cases e:f x with
  |none=>rw[e] at hx;cases hx
  |some y =>
   rw[vS,e];refine⟨by simp[a],λi=>?_⟩
   cases i with
   |zero=>simp[e]
   |succ i=>simpa using b i
theorem yf(es:Array (Int × α)):(List.range es.size).filterMap (λi=>es[i]?)=es.toList:=by
 apply KW;intro i;rw[(yl (l:=List.range es.size) λx hx=>by
  have:=rq.mp hx;simp[this]).2 i]
 by_cases h:i<es.size
 ·rw[List.getElem?_range h,oj];rfl
 ·rw[BU (by simpa using h),BU (by simpa using h)];rfl
theorem G7{M m finger moves:Nat}{led plain:Bool}(hM:M+1=2 ^ m)(hm:3<=m){es:Array (Int × α)}(hf:es.size*5<M*3) :
  ∃ t order,laid M finger moves led plain (es.map (·.1))=some (t,order)/\t.plain=plain/\t.led=led/\t.mask=M/\TI t (order.filterMap λi=>es[i]?)/\(order.filterMap λi=>es[i]?).size=es.size/\(order.filterMap λi=>es[i]?).toList.Perm es.toList/\order.toList.Perm (List.range es.size):=by
 obtain⟨owner,e,O⟩:=Gf hM (es.map (·.1)) (by rw[Array.size_map];lia);have hn:(es.map (·.1)).toList.length=es.size:=by simp
 refine⟨{ mask:=M,place:=((bW M owner).map (·.1)).toArray,dummies:=#[],finger,led,moves,plain },((bW M owner).map (·.2)).toArray,?_,rfl,rfl,rfl,?_⟩
 ·unfold laid;rw[e];rfl
 have vlt:∀ p∈bW M owner,p.2<es.size:=λp hp=>by have:=O.lt _ _ (gr.mp hp).2;lia
 have nd:((bW M owner).map (·.2)).Nodup:=by rw[T4,wa];have:=vJ M owner;rw[wa] at this;refine List.Pairwise.imp_of_mem ?_ this;intro p q hp hq eu z;have:=O.inj _ _ _ (gr.mp hp).2 (by rw[z];exact(gr.mp hq).2);lia
 have pm:((bW M owner).map (·.2)).Perm (List.range es.size):=by
  refine(List.perm_ext_iff_of_nodup nd List.nodup_range).mpr λv=>⟨λhv=>?_,λhv=>?_⟩
  ·obtain⟨p,hp,rfl⟩:=de.mp hv;exact rq.mpr (vlt p hp)
  ·obtain⟨j,hj⟩:=O.all v (by rw[hn];exact rq.mp hv);have hjs:=(y3.mp hj).1;rw[O.sz] at hjs;exact de.mpr ⟨(j,v),gr.mpr ⟨hjs,hj⟩,rfl⟩
 have hlen:(bW M owner).length=es.size:=by have:=pm.length_eq;walk_at"aI"
 have BD:(((bW M owner).map (·.2)).toArray.filterMap λi=>es[i]?).toList=(bW M owner).filterMap λp=>es[p.2]? := by rw[Array.toList_filterMap,Uc];rfl
 obtain⟨f1,f2⟩:=yl (l:=bW M owner) (f:=λp=>es[p.2]?) λp hp=>by simp[vlt p hp]
 have kK':∀ i:Nat,(((bW M owner).map (·.2)).toArray.filterMap λi=>es[i]?)[i]? = ((bW M owner)[i]?).bind λp=>es[p.2]? := λi=>by rw[<- oj,BD];exact f2 i
 have hsz:(((bW M owner).map (·.2)).toArray.filterMap λi=>es[i]?).size=es.size:=by rw[<- xC,BD,f1,hlen]
 have hZ:∀ i:Nat,∀ p,(bW M owner)[i]? = some p->((bW M owner).map (·.1)).toArray.getD i 0=p.1:=λi p hp=>by rw[B7];simp[hp]
 have tk:∀ j,iS owner j=true->j<=M->taken ((bW M owner).map (·.1)).toArray j=true:=λj hj hM'=>by
  obtain⟨v,hv⟩:=(wI (by rw[O.sz];exact wc ‹_›)).mp hj;obtain⟨i,hi⟩:=T8.mp (gr.mpr (show((j,v):Nat × Nat).1<M+1/\owner[((j,v):Nat × Nat).1]? = some (some ((j,v):Nat × Nat).2) from⟨by show j<M+1;exact wc ‹_›,hv⟩));exact(il (xQ (vJ M owner))).mpr ⟨i,by
   have:=(pT.mp hi).1;simpa using this,hZ i _ hi⟩
 refine⟨?_,hsz,?_,by simpa using pm⟩
 ·refine⟨⟨m,hM,hm⟩,?_,xQ (vJ M owner),λi hi=>?_,rfl,by rw[hsz];exact hf,λi h x hx=>?_⟩
  ·rw[hsz];simp[hlen]
  ·have hi:i<(bW M owner).length:=by simpa using hi
   have e1:=AG hi;show((bW M owner).map (·.1)).toArray.getD i 0<=M;rw[hZ i _ e1];have:=(gr.mp (rp e1)).1;lia
  ·rw[kK'] at hx
   cases hp:(bW M owner)[i]? with
   |none=>rw[hp] at hx;cases hx
   |some p =>
    rw[hp] at hx;have hx:es[p.2]? = some (h,x):=hx;have hm':=gr.mp (rp hp);obtain⟨n,a1,a2,a3⟩:=O.path _ _ hm'.2;have hh:(es.map (·.1)).toList.getD p.2 0=h:=by rw[Kx,oj,Array.getElem?_map,hx];rfl
    rw[hh] at a2 a3;refine⟨n,a1,?_,λq hq=>tk _ (a3 q hq) (Tj M h q)⟩;show J M h n=((bW M owner).map (·.1)).toArray.getD i 0;rw[hZ i _ hp];exact a2
 ·rw[BD];have:=pm.filterMap λi=>es[i]?;rw[yf,Uc] at this;exact this
theorem uN{t:SetTable}{es:Array (Int × α)}(hn:es.size<=10000) :
  ∃ t' order,t.relaid (es.map (·.1)) (grown es.size)=some (t',order)/\t'.plain=t.plain/\t'.led=t.led/\sizeAbove (grown es.size)<=16777216/\(es.size<=1000->t'.mask<=8191)/\TI t' (order.filterMap λi=>es[i]?)/\(order.filterMap λi=>es[i]?).size=es.size/\(order.filterMap λi=>es[i]?).toList.Perm es.toList/\order.toList.Perm (List.range es.size):=by
 have hg:grown es.size=es.size*4:=by unfold grown;rw[if_neg (by lia)]
 obtain⟨b,h3,e,eu,hle⟩:=pO (n:=es.size*4) (by lia);have h8:8<=2 ^ b:=Nat.pow_le_pow_right (n:=2) (by decide) h3;unfold relaid;rw[hg,e];obtain⟨t',order,q1,q2,q3,qm,q4⟩:=G7 (M:=2 ^ b-1) (m:=b) (finger:=t.finger) (moves:=t.movedTo (2 ^ b-1)) (led:=t.led) (plain:=t.plain) (by lia) h3 (es:=es) (by lia);refine⟨t',order,q1,q2,q3,?_,λhz=>?_,q4⟩
 ·rcases hle with hle|rfl
  ·lia
  ·decide
 ·rw[qm];rcases hle with hle|rfl
  ·lia
  ·decide
end
section
variable {α:Type}{t:SetTable}{es:Array (Int × α)}
theorem sH(T:TI t es)(hashAt:Nat->Int)(h:Int):∀ (fuel n:Nat),(∃ N,n<=N/\N<n+fuel/\taken t.place (J t.mask h N)=false) ->
  ∃ n',n<=n'/\n'<n+fuel/\(∀ q,n<=q->q<n'->taken t.place (J t.mask h q)=true/\hashAt (below t.place (J t.mask h q))≠h) /\ ((taken t.place (J t.mask h n')=false/\probe.go t hashAt h fuel (ps t.mask h n)=some (.empty (J t.mask h n') none)) \/ (taken t.place (J t.mask h n')=true/\hashAt (below t.place (J t.mask h n'))=h/\probe.go t hashAt h fuel (ps t.mask h n)=some (.candidate (J t.mask h n') (below t.place (J t.mask h n')) (ps t.mask h (n'+1)))))
 |0,n,⟨N,h1,h2,_⟩=>by lia
 |fuel+1,n,⟨N,h1,h2,h3⟩=>by
  unfold probe.go;have hs:=T.slot (J t.mask h n);have hd:=(G4 t.mask h n).2.2.1;by_cases c:taken t.place (J t.mask h n)=true
  ·rw[if_pos c] at hs;have hs:t.slot (ps t.mask h n).j=.live (below t.place (J t.mask h n)):=hs;rw[hs];dsimp only;by_cases e:hashAt (below t.place (J t.mask h n))=h
   ·rw[if_pos (by simpa using e)];exact⟨n,bE _,by lia,λq a b=>by lia,.inr ⟨c,e,rfl⟩⟩
   ·rw[if_neg (by simpa using e)];have hN:N≠n:=λz=>by rw[z,c] at h3;cases h3
    obtain⟨n',a1,a2,a3,a4⟩:=sH T hashAt h fuel (n+1) ⟨N,by lia,by lia,h3⟩;refine⟨n',by exact ky ‹_›,by lia,λq b1 b2=>?_,a4⟩;by_cases z:q=n
    ·subst z;exact⟨c,e⟩
    ·exact a3 q (by lia) b2
  ·have c:taken t.place (J t.mask h n)=false:=by simpa using c
   rw[if_neg (by rw[c];exact hU)] at hs;have hs:t.slot (ps t.mask h n).j=.empty:=hs;rw[hs];dsimp only;rw[hd];exact⟨n,bE _,by lia,λq a b=>by lia,.inl ⟨c,rfl⟩⟩
end
section
variable {prog:Program}{w:World}{K:Type}[DecidableEq K]{knd:KeyKind prog w K}
abbrev bf(knd:KeyKind prog w K)(k:List K):Int:=tupleKeyHash knd k
def Dl(knd:KeyKind prog w K)(p:List K × Addr):Int × Value:=(bf knd p.1,.ref p.2)
structure IQ(knd:KeyKind prog w K)(h:Heap)(a:Addr)(ks:List (List K × Addr)):Prop where
 ob:∃ o es ep t,h.get? a=some o/\o.ExactSet/\o.data=.set es ep t/\TI t es/\t.mask<=8191/\t.led=(!w.params.followText "set-order")/\es.toList=ks.map (Dl knd)
 nd:(ks.map (·.1)).Nodup
 is:∀ p∈ks,IsTupleKey knd h p.1 p.2
variable {A:Around}{E:Value->Shared->Prop}{s:Shared}
theorem oO{k:List K}{a:Addr}{Q:Bool->Shared->Prop}(hk:IsTupleKey knd s.heap k a)(h:Q false s):wpAny (model prog w) A (ofAClassStatement 8 (.ref a)) Q E s:=by
 have hT:=hk.typeIs;obtain⟨o,items,n,ho,_,hd,hi⟩:=hk;unfold ofAClassStatement;refine ai (wpAny_typeOf hT ?_);dsimp only;refine ai ?_;refine aE ?_;simp only[RA,gX,if_false];refine ai (wpAny_seqItems ho hd ?_);dsimp only;refine ai ?_;rw[<- Array.forIn_toList];refine wpAny_forIn_list _ (λrest r s'=>r.1=none/\s'=s/\∀ v∈rest,carriedByValue v=true) _ ?_ ?_ _ _ ⟨rfl,rfl,hi.byValue⟩
 ·rintro v rest r s' ⟨hr,rfl,mM⟩;have hv:=mM v dv;have e:ofAClassStatement 7 v=pure false:=by
   cases v with
   |ref a=>cases hv
   |_=>rfl
  rw[e];refine ai (aE ?_);walk_at"aT";walk_at"as"
 ·rintro⟨r1,r2⟩ s' ⟨hr,rfl,_⟩;simp only at hr;subst hr;exact aE h
theorem j_{k:List K}{a:Addr}{Q:Bool->Shared->Prop}(hk:IsTupleKey knd s.heap k a)(rX:∀ k v,knd.is k v=true->v.scannable=true)(h:∀ b,Q b s):wpAny (model prog w) A (hashByValue 8 (.ref a)) Q E s:=by
 have hT:=hk.typeIs;obtain⟨o,items,n,ho,_,hd,hi⟩:=hk;have kM':∀ v∈items.toList,v.scannable=true:=by
  clear ho hd;generalize items.toList=l at hi
  induction hi with
  |nil=>intro v hv;cases hv
  |cons h1 _ ih =>
   intro v hv;rcases dc.mp hv with rfl|hv
   ·exact rX _ _ h1
   ·exact ih v hv
 unfold hashByValue;refine ai (wpAny_specialOf hT F.slot_tuple_hash.lookup ?_);dsimp only;refine ai (wpAny_seqItems ho hd ?_);dsimp only[Option.getD];refine ai ?_;rw[<- Array.forIn_toList];refine wpAny_forIn_list _ (λrest r s'=>s'=s/\∀ v∈rest,v.scannable=true) _ ?_ ?_ _ _ ⟨rfl,kM'⟩
 ·rintro v rest r s' ⟨rfl,mM⟩;rw[hashByValue_scannable 7 (mM v dv)];refine ai (aE ?_);split
  ·exact aE (aE (h _))
  ·exact aE ⟨rfl,λu Fm=>mM u (cK _ Fm)⟩
 ·rintro⟨r1,r2⟩ s' ⟨rfl,_⟩
  cases r1 with
  |none=>exact aE (h true)
  |some b=>exact aE (h b)
end
local macro_rules | `(tactic| walk_at $s:str) => do
 let x:=s.getString
 if x.startsWith "PV" then `(tactic| exact $(Lean.mkIdent (.str (.str (.num (.str (.str (.str .anonymous "_private") "PySem") "SetOps") 0) "PySem") (x.drop 2).toString)))
 else Lean.Macro.throwUnsupported
abbrev BX:Array (Int × Value)->Nat->Int:=by walk_at "PVstoredHashAt"
abbrev HB:Array (Int × Value)->Option (SetTable × Array Nat)->Sem (Array (Int × Value) × SetTable):=by walk_at "PVreordered"
abbrev rZ:Array (Int × Value)->SetTable->Bool:=by walk_at "PVdrawn"
abbrev K8:Array (Int × Value)->SetTable->Sem Unit:=by walk_at "PVmustBeLedForItsPlaces"
abbrev J2:Bool->Sem Unit:=by walk_at "PVgaveWayHere"
def vR:Array (Int × Value)->Nat->Int:=BX
theorem uK(es:Array (Int × Value))(i:Nat):vR es i=(es[i]?.map (·.1)).getD 0:=rfl
section
variable {prog:Program}{w:World}{K:Type}[DecidableEq K]{knd:KeyKind prog w K}{A:Around}{E:Value->Shared->Prop}{s:Shared}
theorem yz{k:List K}{a:Addr}{ys:List Value}{Q:Bool->Shared->Prop}(hk:IsTupleKey knd s.heap k a)(hy:∀ y∈ys,∃ k' b,y=.ref b/\IsTupleKey knd s.heap k' b)(h:Q false s):wpAny (model prog w) A (searchCouldBeSeen (.ref a) ys) Q E s:=by
 unfold searchCouldBeSeen;refine ai ?_;refine wpAny_forIn_list _ (λrest r s'=>r.1=none/\s'=s/\∀ y∈rest,∃ k' b,y=.ref b/\IsTupleKey knd s.heap k' b) _ ?_ ?_ _ _ ⟨rfl,rfl,hy⟩
 ·rintro y rest r s' ⟨hr,rfl,mM⟩;obtain⟨k',b,rfl,hb⟩:=mM y dv;have go:∀ (P:Prop),P->P:=λ_ p=>p;dsimp only;split
  ·walk_at"as"
  ·refine ai (wpAny_eqIsQuiet_tuple hk ?_);simp only[RA,gX,if_false];refine ai (wpAny_eqIsQuiet_tuple hb ?_);simp only[RA,gX,if_false];refine ai (oO hk ?_);walk_at"aT";refine ai (oO hb ?_);walk_at"aT";walk_at"as"
 ·rintro⟨r1,r2⟩ s' ⟨hr,rfl,_⟩;simp only at hr;subst hr;exact aE h
theorem KN{K G:Prop}(pk:K)(h:K->G):G:=h pk
theorem uh{a x:Addr}{k:List K}{ks:List (List K × Addr)}{o:Obj}{es:Array (Int × Value)}{ep:Nat}{t:SetTable}(hu:A.units<cLine)(ho:s.heap.get? a=some o)(hd:o.data=.set es ep t)(T:TI t es)(he:es.toList=ks.map (Dl knd))(vn:∀ p∈ks,IsTupleKey knd s.heap p.1 p.2) (hx:IsTupleKey knd s.heap k x) {Q:SetFound->Shared->Prop} (dy':k∈ks.map (·.1)->Q (.there none) s)(nf:Nat) (hnf:nf<=10*(t.mask+13)) (oI:taken t.place (J t.mask (bf knd k) nf)=false) (hbf:∀ q<nf,taken t.place (J t.mask (bf knd k) q)=true)(Dp:k∉ks.map (·.1)->Q (.free (J t.mask (bf knd k) nf) false) s) :
  ∀ (fuel n:Nat) (stand:Option Probe),stand.getD (t.probeStart (bf knd k))=ps t.mask (bf knd k) n->n<=nf->nf<n+fuel -> (∀ q<n,∀ p,ks[below t.place (J t.mask (bf knd k) q)]? = some p->p.1≠k)->wpAny (model prog w) A (setSearchFrom a (.ref x) (bf knd k) true fuel stand) Q E s
 |0,n,stand,_,h1,h2,_=>by lia
 |fuel+1,n,stand,hV,h1,h2,hq=>by
  have IU:∀ i:Nat,es[i]? = (ks[i]?).map (Dl knd):=λi=>by rw[<- oj,he,lI]
  unfold setSearchFrom;walk_at"az";dsimp only;rw[if_neg (by rw[T.odd];exact hU)];obtain⟨n',a1,a2,a3,a4⟩:=sH T (vR es) (bf knd k) (10*turns t.mask) n ⟨nf,h1,by unfold turns;lia,oI⟩;have RX:n'<=nf:=by
   by_cases z:n'<=nf
   ·exact z
   ·have:=(a3 nf h1 (by exact FU ‹_›)).1;rw[oI] at this;cases this
  rcases a4 with⟨c1,c2⟩|⟨c1,c2,c3⟩
  ·have c2:t.probe (vR es) (bf knd k) (stand.getD (t.probeStart (bf knd k)))=some (.empty (J t.mask (bf knd k) n') none):=by rw[hV];exact c2
   have e:n'=nf:=by
    by_cases z:n'<nf
    ·have:=hbf n' z;rw[c1] at this;cases this
    ·lia
   have c2:t.probe (BX es) (bf knd k) (stand.getD (t.probeStart (bf knd k)))=some (.empty (J t.mask (bf knd k) n') none):=c2;rw[c2];dsimp only;rw[e];refine aE (Dp λhm=>?_);obtain⟨p,hp,rfl⟩:=de.mp hm;obtain⟨i,hi⟩:=T8.mp hp;have ei:es[i]? = some (bf knd p.1,.ref p.2):=by rw[IU,hi];rfl
   have dA':i<t.place.size:=by rw[T.sz];exact(y3.mp ei).1
   obtain⟨ni,b1,b2,b3⟩:=T.path i _ _ ei;have bt:below t.place (J t.mask (bf knd p.1) ni)=i:=by rw[b2];exact below_at T.up dA'
   have tk:taken t.place (J t.mask (bf knd p.1) ni)=true:=by rw[b2];exact(il T.up).mpr ⟨i,dA',rfl⟩
   have eu:ni<nf:=by
    by_cases z:nf<ni
    ·have:=b3 nf z;rw[oI] at this;cases this
    ·have:ni≠nf:=λz=>by rw[z,oI] at tk;cases tk
     lia
   by_cases z:ni<n
   ·exact hq ni z p (by rw[bt];exact hi) rfl
   ·refine(a3 ni (by exact qa ‹_›) (by lia)).2 ?_;rw[bt,uK,ei];rfl
  ·have c3:t.probe (BX es) (bf knd k) (stand.getD (t.probeStart (bf knd k)))=some (.candidate (J t.mask (bf knd k) n') (below t.place (J t.mask (bf knd k) n')) (ps t.mask (bf knd k) (n'+1))):=by rw[hV];exact c3
   rw[c3];dsimp only;have tk:=lW T.up c1;have To:t.slot (J t.mask (bf knd k) n')=.live (below t.place (J t.mask (bf knd k) n')):=by rw[T.slot,if_pos c1]
   generalize hi:below t.place (J t.mask (bf knd k) n')=i at tk c2 To ⊢;have hil:i<es.size:=by rw[<- T.sz];exact tk.1
   obtain⟨p,hp⟩:∃ p,ks[i]? = some p:=by
    have:i<ks.length:=by have:=congrArg List.length he;simp at this;lia
    exact⟨_,AG this⟩
   have ei:es[i]? = some (bf knd p.1,.ref p.2):=by rw[IU,hp];rfl
   have hpm:=rp hp;have kf:n'≠nf:=λz=>by rw[z,oI] at c1;cases c1
   have again:¬ p.1=k->wpAny (model prog w) A (setSearchFrom a (.ref x) (bf knd k) true fuel (some (ps t.mask (bf knd k) (n'+1)))) Q E s:=λhpk =>
    uh hu ho hd T he vn hx dy' nf hnf oI hbf Dp fuel (n'+1) (some (ps t.mask (bf knd k) (n'+1))) rfl (by lia) (by lia) λq Tn p' ic=>by
     by_cases z:q<n
     ·exact hq q z p' ic
     ·by_cases z2:q=n'
      ·subst z2;rw[hi,hp] at ic;cases ic;exact hpk
      ·intro e';have:=(a3 q (by exact qa ‹_›) (by lia)).2;refine this ?_;rw[uK,IU,ic];show bf knd p'.1=_;rw[e']
   have nS:p.1=k->k∈ks.map (·.1):=λe=>e ▸ de.mpr ⟨p,hpm,rfl⟩;have seen:∀ y∈List.map (λx=>x.snd) (Array.filter (λx=>x.fst == bf knd k) es).toList,∃ k' b,y=.ref b/\IsTupleKey knd s.heap k' b:=λy hy=>by obtain⟨e',SD,rfl⟩:=de.mp hy;rw[Array.toList_filter] at SD;have:=(D7.mp SD).1;rw[he] at this;obtain⟨p',ic,rfl⟩:=de.mp this;exact⟨p'.1,p'.2,rfl,vn p' ic⟩
   refine KN ?pk (K:=?K) λkey=>?main;case main =>
    split
    ·refine ai (yz hx seen ?_);rw[if_neg hU];exact key
    ·exact key
   rw[ei];dsimp only;refine ai (wpAny_holding (wpAny_eqBool_tuple hu (vn p hpm) hx ?_));walk_at"az";dsimp only;by_cases e:p.1=k
   ·rw[if_pos (by simp[e])];exact aE (dy' (nS e))
   ·rw[if_neg (by simp[e])];have Va:t.sameMemory t.moves t.mask=some true:=by unfold sameMemory;rw[if_pos (by simp)]
    rw[Va];dsimp only;rw[if_pos rfl,To];dsimp only;rw[ei];dsimp only;refine ai (m:=isSame (.ref p.2) (.ref p.2)) ?_;unfold isSame;dsimp only;rw[if_pos (by simp)];refine aE (ai (aE ?_));rw[if_pos rfl];dsimp only;rw[if_neg (by simp[e])];exact again e
end
theorem lr{α β:Type}{f:α->β}:∀ {l l2:List β},l.Perm l2->∀ {m:List α},l2=m.map f->∃ m':List α,l=m'.map f/\m'.Perm m:=by
 intro l l2 p
 induction p with
 |nil=>intro m e;exact⟨m,by rw[<- e],.refl _⟩
 |cons x _ ih =>
  intro m e
  cases m with
  |nil=>cases e
  |cons y m =>simp only[fz,List.cons.injEq] at e;obtain⟨m',e1,p1⟩:=ih e.2;exact⟨y :: m',by rw[fz,<- e1,e.1],p1.cons _⟩
 |swap x y l =>
  intro m e
  match m,e with
  |a :: b :: m,e =>simp only[fz,List.cons.injEq] at e;exact⟨b :: a :: m,by simp[e.1,e.2.1,e.2.2],.swap ..⟩
 |trans _ _ ih1 Vm =>intro m e;obtain⟨m',e1,p1⟩:=Vm e;obtain⟨m2,e2,p2⟩:=ih1 e1;exact⟨m2,e2,p2.trans p1⟩
theorem qy{α:Type}(xs:Array α)(p:Nat)(x:α):(insertAt xs p x).toList=xs.toList.take p++x :: xs.toList.drop p:=by unfold insertAt;simp;rw[FL (by simp)]
theorem tL{prog:Program}{w:World}{A:Around}{E:Value->Shared->Prop}{s:Shared}{es:Array (Int × Value)}{t:SetTable}{order:Array Nat}{Q:Array (Int × Value) × SetTable->Shared->Prop}(hz:(order.filterMap λi=>es[i]?).size=es.size)(h:Q (order.filterMap λi=>es[i]?,t) s):wpAny (model prog w) A (HB es (some (t,order))) Q E s:=by
 show wpAny _ _ (if ((order.filterMap λi=>es[i]?).size != es.size)=true then (do unsupported "internal:set-table-lost-an-element";pure (order.filterMap λi=>es[i]?,t)) else pure (order.filterMap λi=>es[i]?,t)) _ _ _;rw[if_neg (by simp[hz])];exact aE h
section
variable {prog:Program}{w:World}{K:Type}[DecidableEq K]{knd:KeyKind prog w K}{A:Around}{E:Value->Shared->Prop}{s:Shared}
theorem IsTupleKey.fA{h h':Heap}{k:List K}{a:Addr}(hk:IsTupleKey knd h k a)(e:∀ o,h.get? a=some o->h'.get? a=some o):IsTupleKey knd h' k a:=by obtain⟨o,items,n,ho,r⟩:=hk;exact⟨o,items,n,e o ho,r⟩
theorem IQ.ne{h:Heap}{a x:Addr}{k:List K}{ks:List (List K × Addr)}(S:IQ knd h a ks)(hx:IsTupleKey knd h k x):x≠a:=by obtain⟨⟨o,es,ep,t,ho,hex,_⟩,_,_⟩:=S;obtain⟨o',items,n,kz,hc,_⟩:=hx;intro z;subst z;rw[ho] at kz;cases kz;rw[hex.1] at hc;exact absurd hc (by decide)
theorem Ja{a x:Addr}{k:List K}{ks:List (List K × Addr)}(S:IQ knd s.heap a ks)(hx:IsTupleKey knd s.heap k x)(hz:ks.length<1000)(hu:A.units<cLine)(rX:∀ k v,knd.is k v=true->v.scannable=true){Q:Bool->Shared->Prop}(h:∀ (b:Bool) (h':Heap) (dn:List (List K × Addr)),Heap.SameBut a s.heap h'->IQ knd h' a dn->(k∈ks.map (·.1)/\dn=ks\/k∉ks.map (·.1)/\dn.Perm ((k,x) :: ks))->Q b { s with heap:=h' }) :
  wpAny (model prog w) A (setAddHashed a (.ref x) (bf knd k)) Q E s:=by
 obtain⟨⟨o,es,ep,t,ho,hex,hd,T,hM,hL,he⟩,nd,is⟩:=id S;have hlen:es.size=ks.length:=by have:=congrArg List.length he;walk_at"aI"
 obtain⟨m,hm,_⟩:=T.pw;obtain⟨e0,VJ,VL⟩:=T.free;obtain⟨nf,n1,n2,n3⟩:=qe hm (bf knd k) (taken t.place) VJ VL;unfold setAddHashed setAddHashedIn;walk_at"bi";dsimp only;have hbs:byScan (.ref x) es=false:=by simp[byScan,Value.scannable]
 rw[hbs];walk_at"aT";refine ai ?_;unfold setSearch;refine uh hu ho hd T he is hx (λnS=>?_) nf n1 n2 n3 (λA7=>?_) 100000 0 none rfl (dy _) (by lia) λq hq=>absurd hq (D9 q)
 ·dsimp only;refine aE ?_;have e:s={ s with heap:=s.heap }:=by cases s;rfl
  rw[e];exact h _ _ ks (Heap.SameBut.refl a s.heap) S (.inl ⟨nS,rfl⟩)
 ·dsimp only;generalize hj:J t.mask (bf knd k) nf=j at n2 ⊢;have VM:j<=t.mask:=by rw[<- hj];exact Tj ..
  have VN:Reach t.mask t.place (bf knd k) j:=⟨nf,n1,hj,n3⟩
  walk_at"az";dsimp only;have VP:t.put j=({ t with place:=insertAt t.place (below t.place j) j,dummies:=#[] },below t.place j):=by
   unfold SetTable.put;have:has t.dummies j=false:=by rw[T.dm];rfl
   simp only[this,gX,if_false];rw[T.dm]
  rw[VP];dsimp only;have nS:(insertAt es (below t.place j) (bf knd k,.ref x)).toList=(ks.take (below t.place j)++(k,x) :: ks.drop (below t.place j)).map (Dl knd):=by rw[qy,he,D8,fz,Lv,LB];rfl
  have vt:(ks.take (below t.place j)++(k,x) :: ks.drop (below t.place j)).Perm ((k,x) :: ks):=by refine List.perm_middle.trans ?_;rw[FP]
  have DU:below t.place j<=es.size:=by rw[<- T.sz];exact(a_ T.up j).1
  have Ap:(insertAt es (below t.place j) (bf knd k,Value.ref x)).size=es.size+1:=cg _ _ DU;have hxa:=S.ne hx;have PF:∀ h',Heap.SameBut a s.heap h'->∀ dn:List (List K × Addr),dn.Perm ((k,x) :: ks)->∀ p∈dn,IsTupleKey knd h' p.1 p.2:=λh' sb dn pm p hp=>by
   have:IsTupleKey knd s.heap p.1 p.2:=by
    rcases dc.mp (pm.mem_iff.mp hp) with rfl|hp
    ·exact hx
    ·exact is p hp
   exact IsTupleKey.fA this λo' kz=>sb.extBut _ _ (S.ne this) kz
  have PH:∀ dn:List (List K × Addr),dn.Perm ((k,x) :: ks)->(dn.map (·.1)).Nodup:=λdn pm=>by rw[(pm.map _).nodup_iff,fz,ny];exact⟨A7,nd⟩
  -- behind the flag
  have main:∀ pl:Bool,wpAny (model prog w) A (do
    storeSet a (insertAt es (below t.place j) (bf knd k,.ref x)) { t with place:=insertAt t.place (below t.place j) j,dummies:=#[],plain:=pl }
    if (!false && ({ t with place:=insertAt t.place (below t.place j) j,dummies:=#[],plain:=pl }:SetTable).tooFull)=true then do
      setRelay a (grown (es.size+1))
      pure true
     else pure true) Q E s:=λpl=>by
   generalize PK:({ t with place:=insertAt t.place (below t.place j) j,dummies:=#[],plain:=pl }:SetTable)=t';have tm:t'.mask=t.mask:=by rw[<- PK]
   have tp:t'.place=insertAt t.place (below t.place j) j:=by rw[<- PK]
   have td:t'.dummies = #[]:=by rw[<- PK]
   have Tp:t'.fill=es.size+1:=by unfold SetTable.fill;rw[tp,td,cg _ _ (a_ T.up j).1,T.sz];simp
   walk_at"aV";have sD:(s.heap.update a (Obj.putSet (insertAt es (below t.place j) (bf knd k,.ref x)) t')).get? a=some { o with data:=.set (insertAt es (below t.place j) (bf knd k,.ref x)) (ep+1) t' }:=by have:=xB (Obj.putSet (insertAt es (below t.place j) (bf knd k,.ref x)) t') ho (by rw[putSet_of _ _ hd];rfl);rw[putSet_of _ _ hd] at this;exact this
   have sP:=Heap.SameBut.update s.heap a (Obj.putSet (insertAt es (below t.place j) (bf knd k,.ref x)) t');by_cases c:t'.tooFull=true
   ·rw[if_pos (by rw[c];rfl)];have S_:t'.fits (insertAt es (below t.place j) (bf knd k,Value.ref x)).size=true:=by have:=T.few;simp only[SetTable.fits,Tp,i7,beq_iff_eq,decide_eq_true_eq];rw[tp,cg _ _ (a_ T.up j).1,Ap,T.sz,tm];exact⟨rfl,by lia⟩
    obtain⟨t2,order,r1,r2,r3,r4,r5,r6,r7,r8,_⟩:=uN (t:=t') (es:=insertAt es (below t.place j) (bf knd k,Value.ref x)) (by lia);rw[Ap] at r1 r4;unfold setRelay;refine ai (ai (wpAny_setState_of sD rfl S_ ?_));dsimp only;rw[if_neg (by rw[sizeLine_eq];lia)];refine ai ?_;rw[r1];obtain⟨dn,ek,pk⟩:=lr r8 nS;refine tL r7 ?_;dsimp only;refine wpAny_storeSet_of sD rfl ?_ (by rw[r7,Ap,sizeLine_eq];lia);refine aE ?_;have DV:=sP.trans (Heap.SameBut.update _ a (Obj.putSet (order.filterMap λi=>(insertAt es (below t.place j) (bf knd k,Value.ref x))[i]?) t2));have tI:=xB (Obj.putSet (order.filterMap λi=>(insertAt es (below t.place j) (bf knd k,Value.ref x))[i]?) t2) sD (by rw[putSet_of _ _ rfl];rfl);rw[putSet_of _ _ rfl] at tI;exact h true _ dn DV ⟨⟨_,_,_,_,tI,hex,rfl,r6,r5 (by lia),by rw[r3,<- PK];exact hL,ek⟩,PH dn (pk.trans vt),PF _ DV dn (pk.trans vt)⟩ (.inr ⟨A7,pk.trans vt⟩)
   ·rw[if_neg (by simpa using c)];refine aE ?_;have pe:(es.size+1)*5<t.mask*3:=by unfold SetTable.tooFull at c;rw[Tp,tm] at c;simpa using c
    exact h true _ _ sP ⟨⟨_,_,_,_,sD,hex,rfl,T.put VM n2 VN tm tp td pe,by rw[tm];exact hM,by rw[<- PK];exact hL,nS⟩,PH _ vt,PF _ sP _ vt⟩ (.inr ⟨A7,vt⟩)
  split
  ·refine ai (j_ hx rX λb=>?_)
   cases b with
   |true=>exact main t.plain
   |false=>exact main false
  ·exact ai (aE (main t.plain))
end
end TS
namespace TS
open PySem PySem.SetTable PyProof.Rows
section
variable {prog:Program}{w:World}{A:Around}{R:Result->Shared->Prop}{I:Addr}{fp wr:List Addr}{n:Nat}{P:Nat->Value->Prop}{St:Nat->Heap->Prop}
theorem CT(W:Walks prog w A.in1 I fp wr n P St)(S:Addr)(Fn:S∉fp)(SI:Nat->Heap->Prop)(keep:∀ i h h',SI i h->(∀ b o,b∉wr->h.get? b=some o->h'.get? b=some o)->SI i h')(step:∀ (i:Nat) (v:Value) (s':Shared) (E':Value->Shared->Prop) (Q:Bool->Shared->Prop),P i v->SI i s'.heap->(∀ b h' tk,Heap.SameBut S s'.heap h'->SI (i+1) h'->Q b { s' with heap:=h',toks:=tk })->wpAny (model prog w) A.in1 (setAdd S v) Q E' s') :
  ∀ (k i:Nat) (s:Shared),n-i=k->i<=n->St i s.heap->SI i s.heap -> (∀ h' tk,SI n h'->(∀ b o,b∉wr->b≠S->s.heap.get? b=some o->h'.get? b=some o)->R (.ok (.ret .none)) { s with heap:=h',toks:=tk }) ->
   codeAny (model prog w) A (.builtin "set.update.loop" ⟨[.ref S,.ref I],[]⟩) R s:=by
 have hSw:S∉wr:=λh=>Fn (W.sub _ h);intro k
 induction k with
 |zero =>
  intro i s hk hi hV hS hR;have nS:i=n:=by lia
  subst nS;refine codeAny_builtin F.entry_set_update_loop ?_;rw[Around.under_plainId F.plain_set_update_loop _];show wpAny _ A.in1 (pyNext (.ref I) >>= _) _ _ s;refine ai (W.done s _ _ hV λh' tk nI=>?_);show wpAny _ A.in1 (ret Value.none) _ _ _;exact aE (hR h' tk (keep _ _ _ hS nI) λb o hb _ e=>nI b o hb e)
 |succ k ih =>
  intro i s hk hi hV hS hR;have eu:i<n:=by lia
  refine codeAny_builtin F.entry_set_update_loop ?_;rw[Around.under_plainId F.plain_set_update_loop _];show wpAny _ A.in1 (pyNext (.ref I) >>= _) _ _ s;refine ai (W.item i s _ _ eu hV λv h' tk hP kR' nI=>?_);show wpAny _ A.in1 (holding [v] (setAdd S v) >>= _) _ _ _;refine ai (wpAny_holding (step i v _ _ _ hP (keep _ _ _ hS nI) λb h2 tk2 sb hS2=>?_));refine aE ⟨plainId_quiet F.plain_set_update_loop _,ih (i+1) _ (by lia) eu (W.frame _ _ _ kR' λb hb o e=>?_) hS2 λh3 tk3 hS3 E5=>?_⟩
  ·exact sb.extBut b o (λz=>Fn (by rw[<- z];exact hb)) e
  ·exact hR h3 tk3 hS3 λb o hb PR e=>E5 b o hb PR (sb.extBut b o PR (nI b o hb e))
end
section
variable {prog:Program}{w:World}{A:Around}{E:Value->Shared->Prop}{s:Shared}
theorem BZ(a:Value){Q₁:Value->Shared->Prop}(h:Q₁ (.ref s.heap.objs.size) { s with heap:=s.heap.push { cls:=.type "set",dict:=none,data:=.set #[] 0 (.fresh 0 0 (!w.params.followText "set-order")) } }) :
  codeAny (model prog w) A (.call (.builtin "set.__new__") ⟨[.type "set",a],[]⟩) (wants Q₁ E) s:=by
 refine codeAny_of_tree ?_;show wpAny _ A.in1 (do checkBuiltinCall "set.__new__" ⟨[.type "set",a],[]⟩;again (.builtin "set.__new__" ⟨[.type "set",a],[]⟩)) _ _ s;refine ai (wpAny_of_eq (F.newCall_set_1 a) (aE ⟨plainId_quiet F.plain_set_new _,codeAny_builtin F.entry_set_new ?_⟩));rw[Around.under_plainId F.plain_set_new _];unfold Builtin.«set.__new__» Builtin.Frozenset.newClass;have VQ:=sub_set_self;obtain⟨hp,g,d,tk,os⟩:=s;dsimp only
 wp_walk
 refine wpAny_askSetting (aE ?_);dsimp only;simp only[newObj];refine ai (wpAny_alloc (aE ?_));exact aE h
theorem kY{l:Addr}{items:Array Value}{Q:Value->Shared->Prop}(hh:A.handled=none)(hl:s.heap.IsList l items)(SI:Nat->Heap->Prop)(h0:∀ h,h.get? s.heap.objs.size=some { cls:=.type "set",dict:=none,data:=.set #[] 0 (.fresh 0 0 (!w.params.followText "set-order")) }->(∀ b o,s.heap.get? b=some o->h.get? b=some o)->SI 0 h) (keep:∀ i h h',SI i h->(∀ b o,b<=s.heap.objs.size->h.get? b=some o->h'.get? b=some o)->SI i h') (step:∀ (i:Nat) (v:Value) (s':Shared) (E':Value->Shared->Prop) (Q:Bool->Shared->Prop),items[i]? = some v->SI i s'.heap->(∀ b h' tk,Heap.SameBut s.heap.objs.size s'.heap h'->SI (i+1) h'->Q b { s' with heap:=h',toks:=tk }) ->
   wpAny (model prog w) A.in1.in1.in1 (setAdd s.heap.objs.size v) Q E' s')
  (h:∀ (h':Heap) (tk:Nat),SI items.size h'->(∀ b o,b<s.heap.objs.size->s.heap.get? b=some o->h'.get? b=some o)->Q (.ref s.heap.objs.size) { s with heap:=h',toks:=tk }) :
  wpAny (model prog w) A (call (.type "set") [.ref l]) Q E s:=by
 obtain⟨c,tl,oJ'⟩:=F.called_set.mro;have oK':=F.called_set.made;have VQ:=F.called_set.sub;refine wpAny_call (codeAny_of_tree ?_);show wpAny _ _ (callAny (.type "set") _) _ _ _;refine aE ⟨Code.quiet_builtin _ (by decide +kernel),codeAny_builtin F.entry_type_call ?_⟩;rw[Around.under_plain (weight_type_call_type "set" [.ref l] []) rfl];have h1:=F.called_set.notType;have h2:=F.called_set.canCreate;have hct:=F.typeCall_set_1 (.ref l);repeat (any_goals (first|assumption|wp_step))
 refine codeAny_mono (BZ (.ref l) (E:=E) (Q₁:=λobj eh=>obj=.ref s.heap.objs.size/\eh={ s with heap:=s.heap.push { cls:=.type "set",dict:=none,data:=.set #[] 0 (.fresh 0 0 (!w.params.followText "set-order")) } }) ⟨rfl,rfl⟩) λr eh hr=>?_
 cases r with
 |error e=>exact hr
 |ok fl =>
  cases fl with
  |ret obj =>
   obtain⟨rfl,rfl⟩:=hr;generalize oM':(!w.params.followText "set-order")=led at h0 ⊢;have hS:(s.heap.push { cls:=.type "set",dict:=none,data:=.set #[] 0 (.fresh 0 0 led) }).get? s.heap.objs.size=some { cls:=.type "set",dict:=none,data:=.set #[] 0 (.fresh 0 0 led) }:=gV _ rfl;have hT:Shared.TypeIs { s with heap:=s.heap.push { cls:=.type "set",dict:=none,data:=.set #[] 0 (.fresh 0 0 led) } } (.ref s.heap.objs.size) "set" := ⟨_,hS,rfl⟩
   have hli:=F.called_set.init.lookup;have hbi:=F.called_set.init.bind (.ref s.heap.objs.size);repeat (any_goals (first|assumption|wp_step))
   refine codeAny_mono (codeAny_call_builtin (R:=wants (λr EJ=>r=.none/\∃ h' tk,EJ={ s with heap:=h',toks:=tk }/\SI items.size h' /\ (∀ b o,b<s.heap.objs.size->s.heap.get? b=some o->h'.get? b=some o)) E) F.called_set.init.plain F.entry_set_init (check_set_init_1 hT ?_)) λkV' EJ VR=>?_
   ·obtain⟨ol,Tq,i6,nl,hdl⟩:=hl;obtain⟨oP',kW',oQ',kX'⟩:=ol;simp only at i6 hdl;subst i6;subst hdl;have kY':(s.heap.push { cls:=.type "set",dict:=none,data:=.set #[] 0 (.fresh 0 0 led) }).get? l=some { cls:=.type "list",dict:=kW',data:=.seq items nl,slots:=kX' }:=dA _ Tq;have oR':=F.sub_list_set;have oS':=F.sub_list_frozenset;have kf:(Value.type "list" == Value.type "dict")=false:=by decide
    have IA:(s.heap.push { cls:=.type "set",dict:=none,data:=.set #[] 0 (.fresh 0 0 led) }).IsList l items:=⟨_,kY',rfl,nl,rfl⟩
    unfold Builtin.«set.__init__» noKeywords Builtin.Frozenset.updateFrom;generalize hPI:pyIter=PI
    wp_walk
    subst hPI;refine wpAny_pyIter_list IA ?_;refine ai (wpAny_runValue ?_);have hlS:l<s.heap.objs.size:=da Tq;have hh3:A.in1.in1.in1.handled=none:=by simp[hh]
    have hsz:(s.heap.push { cls:=.type "set",dict:=none,data:=.set #[] 0 (.fresh 0 0 led) }).objs.size=s.heap.objs.size+1:=LM ..;have lb':l≠(s.heap.push { cls:=.type "set",dict:=none,data:=.set #[] 0 (.fresh 0 0 led) }).objs.size:=by rw[hsz];exact eL (rz hlS)
    have Fn:s.heap.objs.size∉[(s.heap.push { cls:=.type "set",dict:=none,data:=.set #[] 0 (.fresh 0 0 led) }).objs.size,l]:=by rw[hsz];simp only[dc,mw,xo,or_false,not_or];exact⟨eL (Nat.lt_succ_self _),Rw hlS⟩
    refine CT (Walks.list hh3 _ l lb' items) s.heap.objs.size Fn SI (λi h h' hi hk=>keep i h h' hi λb o hb e=>hk b o ?_ e) (λi v s' E' Q' hP hi hq=>step i v s' E' Q' hP hi hq) (items.size-0) 0 _ (by rfl) (dy _) ⟨⟨_,gV _ rfl,rfl,rfl⟩,(IA.push _)⟩ ?hS0 ?hR
    ·rw[hsz];simp only[dc,xo,or_false];exact eL (wc hb)
    case hS0 =>
     exact h0 _ (dA _ hS) λb o e=>dA _ (dA _ e)
    case hR =>
     intro h' BE PY nI;show wpAny _ _ _ _ _ _;refine aE ?_;show wpAny _ _ (ret Value.none) _ _ _;refine aE ⟨rfl,h',BE,rfl,PY,λb o hb e=>?_⟩;refine nI b o ?_ (eL hb) (dA _ (dA _ e));rw[hsz];simp only[dc,xo,or_false];exact eL (rz hb)
   ·cases kV' with
    |error e=>exact VR
    |ok ld' =>
     cases ld' with
     |ret r =>
      obtain⟨rfl,h',tk,rfl,PY,nI⟩:=VR;repeat (any_goals (first|assumption|wp_step))
      exact h _ _ PY nI
     |_=>exact VR.elim
  |_=>exact hr.elim
end
theorem uA:Manifest.owners.lookup (String.ofList ['r','o','t','a','r','e','t','i','_','t','e','s'].reverse)=some Manifest.sig_set_iterator:=by kernel_rfl
theorem cu:Slot "set_iterator" "__next__" "set_iterator.__next__" :=
 .of (owner := "set_iterator") (n := "__next__") (by rw[typeLookup_type,builtinLookup_eq_fast];kernel_rfl) (by decide +kernel) (by decide +kernel) (by decide +kernel) (by first|exact .inl (by decide +kernel)|exact .inr (by decide +kernel)) (by rw[isSubtype_type];kernel_rfl)
theorem pP:entryFor table "set_iterator.__next__" = some Builtin.«set_iterator.__next__» := entryFor_of_tree (by kernel_rfl)
theorem qR (a:Value):argsOk "set_iterator.__next__" ⟨[a],[]⟩:=by unfold argsOk;rw[signature?_of (id := "set_iterator.__next__") (n:=['_','_','t','x','e','n','_','_']) (o:=['r','o','t','a','r','e','t','i','_','t','e','s']) (by kernel_rfl) uA];kernel_rfl
theorem jt:Slot "set_iterator" "__iter__" "set_iterator.__iter__" :=
 .of (owner := "set_iterator") (n := "__iter__") (by rw[typeLookup_type,builtinLookup_eq_fast];kernel_rfl) (by decide +kernel) (by decide +kernel) (by decide +kernel) (by first|exact .inl (by decide +kernel)|exact .inr (by decide +kernel)) (by rw[isSubtype_type];kernel_rfl)
theorem pq:entryFor table "set.__iter__" = some Builtin.«frozenset.__iter__» :=
 entryFor_alias (id' := "frozenset.__iter__") (by kernel_rfl) rfl (by decide +kernel) (by kernel_rfl)
theorem jX{α:Type}:∀ (l:List α) (i:Nat) (h:i<l.length),(l[i] :: l.eraseIdx i).Perm l
 |x :: l,0,_=>.refl _
 |x :: l,i+1,h=>by have ih:=jX l i (by simpa using h);exact(List.Perm.swap _ _ _).trans (ih.cons x)
theorem Am{α:Type}(next:Nat->Nat):∀ (fuel k:Nat) (left:List α) (out:Array α),left.length=fuel->(pickOrder.go next fuel k left out).toList.Perm (out.toList++left)
 |0,k,left,out,h=>by have:left=[]:=KL.mp h;subst this;unfold pickOrder.go;rw[og]
 |fuel+1,k,left,out,h=>by unfold pickOrder.go;have eu:next k % left.length<left.length:=FY _ (by lia);rw[AG eu];dsimp only;refine(Am next fuel (k+1) _ _ (by rw[List.length_eraseIdx];split<;>lia)).trans ?_;rw[om,vT];refine List.Perm.append_left _ ?_;exact jX _ _ eu
theorem mZ{α:Type}(next:Nat->Nat)(xs:Array α):(pickOrder next xs).toList.Perm xs.toList:=by unfold pickOrder;have:=Am next xs.size 0 xs.toList #[] (by simp);simpa using this
section
variable {prog:Program}{w:World}{A:Around}{E:Value->Shared->Prop}{s:Shared}
theorem uY{M:Model}{src:Source}{n:Nat}{Q:Nat->Shared->Prop}(hn:n≠0)(h:∀ i d,i<n->Q i { s with drawn:=d }):wpAny M A (choose src n) Q E s:=λΓ p _=>⟨hn,h _ _ (FY _ (Nat.pos_of_ne_zero hn))⟩
theorem G6{α:Type}(n:Nat):∀ (xs:List α) (s:Shared) (Q:List α->Shared->Prop),xs.length=n->(∀ ys d,ys.Perm xs->Q ys { s with drawn:=d })->wpAny (model prog w) A (drawOrder n xs) Q E s:=by
 induction n with
 |zero =>intro xs s Q h q;have:xs=[]:=KL.mp h;subst this;unfold drawOrder;exact aE (q [] s.drawn (.refl _))
 |succ n ih =>
  intro xs s Q h q
  cases xs with
  |nil=>cases h
  |cons x xs =>unfold drawOrder;refine ai (uY (by simp) λi d hi=>?_);rw[AG hi];dsimp only;refine ai (ih _ _ _ (by rw[List.length_eraseIdx,if_pos hi];simp at h ⊢;lia) λys d' py=>?_);refine aE ?_;exact q _ d' ((py.cons _).trans (jX _ _ hi))
def ri(h:Heap)(I:Addr)(first:Value)(i:Nat)(a:Addr)(n ep:Nat):Prop :=
 h.get? I=some { cls:=.type "set_iterator",dict:=none,data:=.fields #[first,.int i 0,.ref a,.int n 0,.int ep 0],slots:=#[] }
def Au(h:Heap)(a:Addr)(es:Array (Int × Value))(ep:Nat)(t:SetTable):Prop:=∃ o,h.get? a=some o/\o.data=.set es ep t
variable {a I:Addr}{es:Array (Int × Value)}{ep:Nat}{t:SetTable}{first:Value}{i n:Nat}
theorem ri.typeIs (h:ri s.heap I first i a n ep):s.TypeIs (.ref I) "set_iterator" := ⟨_,h,rfl⟩
theorem Bf{Q:Option Value->Shared->Prop}(hit:ri s.heap I first i a n ep)(h:wpAny (model prog w) A.in1 (Builtin.«set_iterator.__next__» ⟨[.ref I],[]⟩) (λfin s'=>∃ v,fin=.done (.ret v)/\Q (some v) s') (λe s'=>wpAny (model prog w) A (isInstance e (.type "StopIteration")) (λb CY=>b=true/\Q none CY) E s') s) :
  wpAny (model prog w) A (pyNext (.ref I)) Q E s:=by
 unfold pyNext;refine ai (wpAny_attempt (wpAny_callSpecial?_slot (name:=Str.ofString "__next__") hit.typeIs cu (wpAny_call_entry cu hit.typeIs pP ?_ (qR _))))
 refine rj h (λfin s' ⟨v,e,q⟩=>⟨v,e,aE q⟩) λe s' q=>?_;refine ai (rj q (λb CY ck=>?_) λ_ _ x=>x);obtain⟨e,q⟩:=ck;subst e;rw[if_pos rfl];exact aE q
theorem Aa{P:Fin->Shared->Prop}{Q:Option Value->Shared->Prop}(hh:A.handled=none)(hQ:∀ h',(∀ b o,s.heap.get? b=some o->h'.get? b=some o)->Q none { s with heap:=h' }) :
  wpAny (model prog w) A.in1 (newExc (.type "StopIteration") [] >>= λe=>raiseNew e) P (λe s'=>wpAny (model prog w) A (isInstance e (.type "StopIteration")) (λb CY=>b=true/\Q none CY) E s') s:=by
 refine ai ?_;simp only[newExc,newTuple];walk_at"ar";refine ai (m:=firstArgMember _ _) (wpAny_of_eq (a:=Value.none) (by first|rfl|(simp only[firstArgMember];rfl)) ?_);refine wpAny_newObj_type ?_ (by size_fits);simp only[raiseNew];refine ai (wpAny_handled ?_);rw[show A.in1.handled=none from hh];refine ai (aE (wpAny_throw ?_));refine wpAny_isInstance (T := "StopIteration") (b:=true) ⟨_,gV _ rfl,rfl⟩ isSubtype_stop ⟨rfl,?_⟩;exact hQ _ λb o e=>dA _ (dA _ e)
theorem jr{Q:Option Value->Shared->Prop}{slot:Nat}{r:Option (Value × Nat)}(hh:A.handled=none)(kf:a≠I)(hit:ri s.heap I (.int slot 0) i a es.size ep)(AA:Au s.heap a es ep t)(hf:t.fits es.size=true)(hr:∀ (A':Around) (E':Value->Shared->Prop) (Q':Option (Value × Nat)->Shared->Prop),Q' r s->wpAny (model prog w) A' (setNext a slot i ep) Q' E' s)(h1:∀ x nx h',r=some (x,nx)->ri h' I (.int nx 0) (i+1) a es.size ep->Heap.SameBut I s.heap h'->Q (some x) { s with heap:=h' }) (h2:∀ h',r=none->(∀ b o,b≠I->s.heap.get? b=some o->h'.get? b=some o)->Q none { s with heap:=h' }) :
  wpAny (model prog w) A (pyNext (.ref I)) Q E s:=by
 obtain⟨o,ho,hd⟩:=AA;refine Bf hit ?_;unfold Builtin.«set_iterator.__next__»;walk_at"ai";dsimp only;refine ai (wpAny_fieldsOf hit rfl ?_);dsimp only;refine ai (wpAny_setEntries_of ho hd hf ?_);walk_at"aZ";simp only[GO];refine ai (hr _ _ _ ?_)
 cases r with
 |some p =>obtain⟨x,nx⟩:=p;dsimp only;refine ai (wpAny_setField_rec hit (by simp) λg1 e1 sP=>?_);refine ai (wpAny_setField_rec (s:={ s with heap:=g1 }) e1 (by simp) λg2 e2 DV=>?_);exact aE ⟨x,rfl,h1 x nx g2 rfl (by unfold ri;simpa[rawInt] using e2) (sP.trans DV)⟩
 |none =>dsimp only;refine ai (wpAny_setField_rec hit (by simp) λg1 e1 sP=>?_);exact Aa (s:={ s with heap:=g1 }) hh λh' k=>h2 h' rfl λb o hb e=>k b o (sP.extBut b o hb e)
theorem qz{Q:Option Value->Shared->Prop}{T:Addr}{ix:List Nat}{oT:Obj}{kT:Nat}(hh:A.handled=none)(hit:ri s.heap I (.ref T) i a es.size ep)(AA:Au s.heap a es ep t)(hf:t.fits es.size=true)(hT:s.heap.get? T=some oT) (hTd:oT.data=.seq (ix.map λ(k:Nat)=>Value.int k 0).toArray kT)(h1:∀ k e h',ix[i]? = some k->es[k]? = some e->ri h' I (.ref T) (i+1) a es.size ep->Heap.SameBut I s.heap h'->Q (some e.2) { s with heap:=h' }) (E3:∀ k∈ix,k<es.size) (h2:∀ h',ix[i]? = none->(∀ b o,b≠I->s.heap.get? b=some o->h'.get? b=some o)->Q none { s with heap:=h' }) :
  wpAny (model prog w) A (pyNext (.ref I)) Q E s:=by
 obtain⟨o,ho,hd⟩:=AA;refine Bf hit ?_;unfold Builtin.«set_iterator.__next__»;walk_at"ai";dsimp only;refine ai (wpAny_fieldsOf hit rfl ?_);dsimp only;refine ai (wpAny_setEntries_of ho hd hf ?_);walk_at"aZ";refine ai (wpAny_seqItems hT hTd ?_);dsimp only;simp only[GO,List.getElem?_toArray,lI]
 cases hk:ix[i]? with
 |some k =>dsimp only[Option.map];have hkl:=E3 k (rp hk);refine ai ?_;unfold setNextDrawn;refine ai (wpAny_setState_of ho hd hf ?_);dsimp only;simp only[GO];rw[if_neg (by simp),y4 hkl];refine aE ?_;refine ai (wpAny_setField_rec hit (by simp) λg1 e1 sP=>?_);exact aE ⟨_,rfl,h1 k es[k] g1 hk (y4 hkl) (by unfold ri;simpa[rawInt] using e1) sP⟩
 |none =>dsimp only[Option.map];refine ai (wpAny_setField_rec hit (by simp) λg1 e1 sP=>?_);refine ai (wpAny_setField_rec (s:={ s with heap:=g1 }) e1 (by simp) λg2 e2 DV=>?_);exact Aa (s:={ s with heap:=g2 }) hh λh' k=>h2 h' hk λb o hb e=>k b o ((sP.trans DV).extBut b o hb e)
theorem qQ (a:Value):argsOk "set_iterator.__iter__" ⟨[a],[]⟩:=by unfold argsOk;rw[signature?_of (id := "set_iterator.__iter__") (n:=['_','_','r','e','t','i','_','_']) (o:=['r','o','t','a','r','e','t','i','_','t','e','s']) (by kernel_rfl) uA];kernel_rfl
theorem pK:entryFor table "set_iterator.__iter__" = some Builtin.«dict_keyiterator.__iter__» :=
 entryFor_alias (id' := "dict_keyiterator.__iter__") (by kernel_rfl) rfl (by decide +kernel) (by kernel_rfl)
theorem nG{Q:Value->Shared->Prop}(hit:ri s.heap I first i a n ep)(h:Q (.ref I) s):wpAny (model prog w) A (pyIter (.ref I)) Q E s:=by refine wpAny_pyIter_slot hit.typeIs jt (wpAny_call_entry jt hit.typeIs pK ?_ (qQ _));show wpAny _ _ (ret (.ref I)) _ _ s;exact aE ⟨_,rfl, "set_iterator",_,hit.typeIs,cu.lookup,h⟩
theorem tG {slot:Nat} {Q:Option (Value × Nat)->Shared->Prop} (hb:w.params.followText "set-order" = true) (AA:Au s.heap a es ep t) (hf:t.fits es.size=true)(h:Q (((pickOrder (w.params.setOrder a ep) es)[i]?).map λe=>(e.2,slot)) s):wpAny (model prog w) A (setNext a slot i ep) Q E s:=by
 obtain⟨o,ho,hd⟩:=AA;unfold setNext;walk_at"W";dsimp only;unfold setsByText;walk_at"X";dsimp only;rw[if_pos (by exact hb),if_neg (by simp)];refine ai ?_;unfold setWalk;walk_at"W";dsimp only;unfold setsByText;walk_at"X";dsimp only;rw[if_pos (by exact hb)];refine ai (wpAny_askSetting (aE ?_));exact aE h
theorem qC {slot:Nat} {Q:Option (Value × Nat)->Shared->Prop} (hb:w.params.followText "set-order" = false) (hl:t.led=true) (IX:(!t.plain && decide (es.size>1))=false) (AA:Au s.heap a es ep t) (hf:t.fits es.size=true)(h:Q (match es[below t.place slot]?,t.place[below t.place slot]? with
  |some (_,x),some j=>some (x,j+1)
  |_,_=>none) s):wpAny (model prog w) A (setNext a slot i ep) Q E s:=by
 obtain⟨o,ho,hd⟩:=AA;unfold setNext;walk_at"W";dsimp only;unfold setsByText;walk_at"X";dsimp only;rw[if_neg (by rw[show(model prog w).w.params.followText "set-order" = false from hb];exact hU)];have e0:rZ es t=(!t.plain && decide (es.size>1)):=rfl;unfold rZ at e0;rw[e0,IX,if_neg hU];refine ai (m:=K8 es t) ?_;show wpAny _ _ (if (!t.led && !es.isEmpty)=true then unsupported "set:maker-not-led" else pure ()) _ _ s;rw[if_neg (by rw[hl];simp)];exact aE (aE h)
def PV(ys:List (Int × Value))(i:Nat)(v:Value):Prop:=∃ e,ys[i]? = some e/\v=e.2
theorem ri.keep{h h':Heap}(x:ri h I first i a n ep)(e:∀ o,h.get? I=some o->h'.get? I=some o):ri h' I first i a n ep:=e _ x
theorem Au.keep{h h':Heap}(x:Au h a es ep t)(e:∀ o,h.get? a=some o->h'.get? a=some o):Au h' a es ep t:=let ⟨o,ho,r⟩:=x;⟨o,e _ ho,r⟩
theorem Av (hh:A.handled=none) (kf:a≠I) (hb:w.params.followText "set-order" = true) (hf:t.fits es.size=true) :
  Walks prog w A I [I,a] [I] es.size (PV (pickOrder (w.params.setOrder a ep) es).toList) (λi h=>(∃ slot:Nat,ri h I (.int slot 0) i a es.size ep)/\Au h a es ep t) where
 sub:=λb hb=>by simp at hb;simp[hb]
 frame:=λ_ _ _ ⟨⟨sl,x⟩,y⟩ hk=>⟨⟨sl,x.keep λo e=>hk I (by simp) o e⟩,y.keep λo e=>hk a (by simp) o e⟩
 item:=λi s Q E hi ⟨⟨sl,x⟩,y⟩ hQ=>by
  have hlen:(pickOrder (w.params.setOrder a ep) es).size=es.size:=by have:=(mZ (w.params.setOrder a ep) es).length_eq;walk_at"aI"
  refine jr hh kf x y hf (r:=((pickOrder (w.params.setOrder a ep) es)[i]?).map λe=>(e.2,sl)) (λA' E' Q' q=>tG hb y hf q) (λv nx h' e x' sb=>?_) λh' e k=>?_
  ·rw[y4 (by lia)] at e;cases e;exact hQ _ h' s.toks ⟨_,by rw[oj];exact y4 (by lia),rfl⟩ ⟨⟨_,x'⟩,y.keep λo e=>sb.extBut _ _ kf e⟩ λb o hb e=>sb.extBut b o (λh=>hb (by simp[h])) e
  ·rw[y4 (by lia)] at e;cases e
 done:=λs Q E ⟨⟨sl,x⟩,y⟩ hQ=>by
  have hlen:(pickOrder (w.params.setOrder a ep) es).size=es.size:=by have:=(mZ (w.params.setOrder a ep) es).length_eq;walk_at"aI"
  refine jr hh kf x y hf (r:=((pickOrder (w.params.setOrder a ep) es)[es.size]?).map λe=>(e.2,sl)) (λA' E' Q' q=>tG hb y hf q) (λv nx h' e x' sb=>?_) λh' e k=>?_
  ·rw[GL (by lia)] at e;cases e
  ·exact hQ h' s.toks λb o hb e=>k b o (λh=>hb (by simp[h])) e
 self:=λ_ _ _ _ ⟨⟨sl,x⟩,y⟩ hQ=>nG x hQ
def slotAt(t:SetTable):Nat->Nat
 |0=>0
 |i+1=>t.place.getD i 0+1
theorem kW(U:Up t.place){i:Nat}(h:i<=t.place.size):below t.place (slotAt t i)=i:=by
 cases i with
 |zero =>
  obtain⟨_,b,_⟩:=a_ U 0;by_cases z:below t.place 0=0
  ·exact z
  ·exact absurd (b 0 (Nat.pos_of_ne_zero z)) (D9 _)
 |succ i=>exact yQ U (by assumption)
theorem yR (hh:A.handled=none) (kf:a≠I) (hb:w.params.followText "set-order" = false) (hl:t.led=true) (IX:(!t.plain && decide (es.size>1))=false) (U:Up t.place) (hz:t.place.size=es.size) (hf:t.fits es.size=true) :
  Walks prog w A I [I,a] [I] es.size (PV es.toList) (λi h=>ri h I (.int (slotAt t i:Nat) 0) i a es.size ep/\Au h a es ep t) where
 sub:=λb hb=>by simp at hb;simp[hb]
 frame:=λ_ _ _ ⟨x,y⟩ hk=>⟨x.keep λo e=>hk I (by simp) o e,y.keep λo e=>hk a (by simp) o e⟩
 item:=λi s Q E hi ⟨x,y⟩ hQ=>by
  have DU:=kW (t:=t) U (i:=i) (by lia);have e1:es[below t.place (slotAt t i)]? = some es[i]:=by rw[DU];exact y4 hi
  have e2:t.place[below t.place (slotAt t i)]? = some (t.place.getD i 0):=by rw[DU];exact zz (by lia)
  refine jr hh kf x y hf (r:=some (es[i].2,t.place.getD i 0+1)) (λA' E' Q' q=>qC hb hl IX y hf (by rw[e1,e2];exact q)) (λv nx h' e x' sb=>?_) λh' e k=>nomatch e;cases e;exact hQ _ h' s.toks ⟨_,by rw[oj];exact y4 hi,rfl⟩ ⟨x',y.keep λo e=>sb.extBut _ _ kf e⟩ λb o hb e=>sb.extBut b o (λh=>hb (by simp[h])) e
 done:=λs Q E ⟨x,y⟩ hQ=>by
  have DU:=kW (t:=t) U (i:=es.size) (by lia);have e1:es[below t.place (slotAt t es.size)]? = none:=by rw[DU];exact GL (bE _)
  refine jr hh kf x y hf (r:=none) (λA' E' Q' q=>qC hb hl IX y hf (by rw[e1];exact q)) (λv nx h' e x' sb=>nomatch e) λh' e k=>?_;exact hQ h' s.toks λb o hb e=>k b o (λh=>hb (by simp[h])) e
 self:=λ_ _ _ _ ⟨x,y⟩ hQ=>nG x hQ
theorem yu{T:Addr}{ix:List Nat}{kT:Nat}(hh:A.handled=none)(kf:a≠I)(hTI:T≠I)(hf:t.fits es.size=true)(hp:ix.Perm (List.range es.size)) :
  Walks prog w A I [I,a,T] [I] es.size (PV (ix.filterMap λk=>es[k]?)) (λi h=>ri h I (.ref T) i a es.size ep/\Au h a es ep t/\∃ o,h.get? T=some o/\o.data=.seq (ix.map λ(k:Nat)=>Value.int k 0).toArray kT):=by
 have hlen:ix.length=es.size:=by simpa using hp.length_eq
 have E3:∀ k∈ix,k<es.size:=λk hk=>rq.mp (hp.mem_iff.mp hk);obtain⟨f1,f2⟩:=yl (l:=ix) (f:=λk=>es[k]?) λk hk=>by simp[E3 k hk]
 exact {
  sub:=λb hb=>by simp at hb;simp[hb]
  frame:=λ_ _ _ ⟨x,y,o,z,zd⟩ hk=>⟨x.keep λo e=>hk I (by simp) o e,y.keep λo e=>hk a (by simp) o e,o,hk T (by simp) o z,zd⟩
  item:=λi s Q E hi ⟨x,y,o,z,zd⟩ hQ=>by
   refine qz hh x y hf z zd (λk e h' e1 e2 x' sb=>?_) E3 λh' e k=>?_
   ·refine hQ _ h' s.toks ⟨e,by rw[f2,e1];exact e2,rfl⟩ ⟨x',y.keep λo e=>sb.extBut _ _ kf e,o,sb.extBut _ _ hTI z,zd⟩ λb o hb e=>sb.extBut b o (λh=>hb (by simp[h])) e
   ·rw[AG (by lia)] at e;cases e
  done:=λs Q E ⟨x,y,o,z,zd⟩ hQ=>by
   refine qz hh x y hf z zd (λk e h' e1 e2 x' sb=>?_) E3 λh' e k=>?_
   ·rw[BU (by lia)] at e1;cases e1
   ·exact hQ h' s.toks λb o hb e=>k b o (λh=>hb (by simp[h])) e
  self:=λ_ _ _ _ ⟨x,_⟩ hQ=>nG x hQ }
end
section
variable {prog:Program}{w:World}{A:Around}{E:Value->Shared->Prop}{s:Shared}{a:Addr}{o:Obj}{es:Array (Int × Value)}{ep:Nat}{t:SetTable}
theorem DG {Q:Value->Shared->Prop} (hh:A.handled=none) (ho:s.heap.get? a=some o) (hex:o.ExactSet) (hd:o.data=.set es ep t) (hf:t.fits es.size=true) (U:Up t.place) (hz:t.place.size=es.size) (hl:t.led=(!w.params.followText "set-order")) (hn:es.size<=sizeLine)(h:∀ (I:Addr) (h2:Heap) d (fp:List Addr) (St:Nat->Heap->Prop) (ys:List (Int × Value)),(∀ b o,s.heap.get? b=some o->h2.get? b=some o)->s.heap.objs.size<=I->(∀ b∈fp,b=a\/s.heap.objs.size<=b)->ys.Perm es.toList ->
   Walks prog w A I fp [I] es.size (PV ys) St->St 0 h2->Q (.ref I) { s with heap:=h2,drawn:=d }):wpAny (model prog w) A (pyIter (.ref a)) Q E s:=by
 have hT:s.TypeIs (.ref a) "set" := ⟨o,ho,hex.1⟩
 have eu:a<s.heap.objs.size:=da ho;refine wpAny_pyIter_slot hT F.slot_set_iter (wpAny_call_entry F.slot_set_iter hT pq ?_ (F.args_set_iter_1 _));unfold Builtin.«frozenset.__iter__»;refine ai (m:=Builtin.Frozenset.slot0 "__iter__" ⟨[.ref a],[]⟩) (wpAny_of_eq (a:=a) rfl ?_);refine ai ?_;unfold Builtin.Frozenset.sizeOf;refine ai (wpAny_setEntries_of ho hd hf (aE ?_));refine ai ?_;unfold setDrawn;walk_at"W";dsimp only;unfold setsByText;walk_at"X";refine aE ?_;have e0:rZ es t=(!t.plain && decide (es.size>1)):=rfl;unfold rZ at e0;rw[e0];show wpAny _ _ (if (!w.params.followText "set-order" && (!t.plain && decide (es.size>1)))=true then _ else _) _ _ s
 cases hb:w.params.followText "set-order" with
 |true =>
  rw[if_neg (by simp)];refine ai (aE ?_);refine ai (wpAny_setEpoch_of ho hd hf ?_);refine ai (wpAny_newObj_type ?_);refine aE ⟨_,rfl, "set_iterator",_,⟨_,gV _ rfl,rfl⟩,cu.lookup,?_⟩;have kz:(s.heap.push { cls:=.type "set_iterator",data:=.fields #[rawInt 0,rawInt 0,.ref a,rawInt es.size,rawInt ep] }).get? a=some o:=dA _ ho;exact h s.heap.objs.size _ s.drawn _ _ _ (λb o e=>dA _ e) (bE _) (λb hb=>by
   rcases dc.mp hb with rfl|hb
   ·exact .inr (bE _)
   ·exact .inl (mw.mp hb)) (mZ _ _) (Av (ep:=ep) hh (eL eu) hb hf) ⟨⟨0,gV _ rfl⟩,o,kz,hd⟩
 |false =>
  cases IX:(!t.plain && decide (es.size>1)) with
  |false =>
   rw[if_neg (by simp)];refine ai (aE ?_);refine ai (wpAny_setEpoch_of ho hd hf ?_);refine ai (wpAny_newObj_type ?_);refine aE ⟨_,rfl, "set_iterator",_,⟨_,gV _ rfl,rfl⟩,cu.lookup,?_⟩;have kz:(s.heap.push { cls:=.type "set_iterator",data:=.fields #[rawInt 0,rawInt 0,.ref a,rawInt es.size,rawInt ep] }).get? a=some o:=dA _ ho;exact h s.heap.objs.size _ s.drawn _ _ _ (λb o e=>dA _ e) (bE _) (λb hb=>by
    rcases dc.mp hb with rfl|hb
    ·exact .inr (bE _)
    ·exact .inl (mw.mp hb)) (.refl _) (yR (ep:=ep) hh (eL eu) hb (by rw[hl,hb];rfl) IX U hz hf) ⟨gV _ rfl,o,kz,hd⟩
  |true =>
   rw[if_pos (by simp)];refine ai (G6 es.size (List.range es.size) s _ (by simp) λix d hp=>?_);refine ai (wpAny_newObj_type ?_ ?hzz);case hzz =>
    have:=hp.length_eq;rw[Ue] at this;show(ix.map λ(i:Nat)=>rawInt i).toArray.size<=sizeLine;rw[i5,cE,this];exact hn
   have sD:(s.heap.push { cls:=.type "tuple",data:=.seq (ix.map λ(i:Nat)=>rawInt i).toArray }).get? a=some o:=dA _ ho;refine ai (wpAny_setEpoch_of sD hd hf ?_);refine ai (wpAny_newObj_type ?_);refine aE ⟨_,rfl, "set_iterator",_,⟨_,gV _ rfl,rfl⟩,cu.lookup,?_⟩;have Tr:(s.heap.push { cls:=.type "tuple",data:=.seq (ix.map λ(i:Nat)=>rawInt i).toArray }).objs.size=s.heap.objs.size+1:=LM ..;refine h (s.heap.push { cls:=.type "tuple",data:=.seq (ix.map λ(i:Nat)=>rawInt i).toArray }).objs.size _ d [(s.heap.push { cls:=.type "tuple",data:=.seq (ix.map λ(i:Nat)=>rawInt i).toArray }).objs.size,a,s.heap.objs.size] _ (ix.filterMap λk=>es[k]?) (λb o e=>dA _ (dA _ e)) (by rw[Tr];exact Nat.le_succ _) (λb hb=>?_) ?_ (yu (ep:=ep) (kT:=0) (T:=s.heap.objs.size) (ix:=ix) (t:=t) hh (by rw[Tr];exact eL (rz eu)) (by rw[Tr];exact eL (Nat.lt_succ_self _)) hf hp) ⟨gV _ rfl,⟨o,dA _ sD,hd⟩,_,dA _ (gV _ rfl),rfl⟩
   ·rcases dc.mp hb with rfl|hb
    ·exact .inr (by rw[Tr];exact Nat.le_succ _)
    ·rcases dc.mp hb with rfl|hb
     ·exact .inl rfl
     ·rw[mw.mp hb];exact .inr (bE _)
   ·have:=hp.filterMap λk=>es[k]?;rw[yf] at this;exact this
theorem DK {Q:Bool->Shared->Prop} (hT:s.TypeIs (.ref a) "set") (h:Q false s):wpAny (model prog w) A (Builtin.List.listLengthHint (.ref a)) Q E s:=by
 unfold Builtin.List.listLengthHint;refine ai (wpAny_specialOf hT PySem.F.slot_set_len.lookup ?_);generalize hid:("set.__len__" : String)=id0
 wp_delta
 rw[show splitId id0=some ("set", "__len__") from by subst hid;decide +kernel];subst hid;refine ai (wpAny_isInstance (T := "set") (b:=true) hT (by rw[isSubtype_type];kernel_rfl) ?_);refine wpAny_ite_split (λFh=>absurd Fh (by decide)) (λ_=>?_);refine wpAny_ite_split (λ_=>?_) (λFh=>absurd (by decide +kernel) Fh);refine ai (wpAny_typeOf hT ?_);exact aE h
theorem Ho {R:Result->Shared->Prop} (hh:A.handled=none) (ho:s.heap.get? a=some o) (hex:o.ExactSet) (hd:o.data=.set es ep t) (hf:t.fits es.size=true) (U:Up t.place) (hz:t.place.size=es.size) (hl:t.led=(!w.params.followText "set-order")) (hn:es.size<=sizeLine)(S:Addr) (hSa:S≠a) (res:Value) (c₀:Nat) (hS:s.heap.get? S=some { cls:=.type "list",data:=.seq #[] c₀ }) (hR:∀ h' tk d BF c' ys,(∀ b o,b≠S->s.heap.get? b=some o->h'.get? b=some o)->h'.get? S=some { cls:=.type "list",dict:=none,data:=.seq BF c',slots:=#[] }->ys.Perm es.toList->ItemsOf (PV ys) BF es.size->R (.ok (.ret res)) { s with heap:=h',toks:=tk,drawn:=d }) :
  wpAny (model prog w) A.in1 (Builtin.List.listExtendWith (.ref S) (.ref a) res) (λfin s'=>match fin with|.done f=>R (.ok f) s'|.again c'=>c'.quiet=true/\codeAny (model prog w) A c' R s') (λe s'=>R (.error e) s') s:=by
 have hT:s.TypeIs (.ref a) "set" := ⟨o,ho,hex.1⟩
 have hSl:=da hS;unfold Builtin.List.listExtendWith;refine ai (wpAny_typeOf hT ?_);have h1:Builtin.List.listSameRef (.ref S) (.ref a)=false:=by simp[Builtin.List.listSameRef,hSa]
 simp only[h1,show(Value.type "set" == Value.type "list")=false by decide,show(Value.type "set" == Value.type "tuple")=false by decide,Bool.or_false,gX,if_false];refine ai (DG (A:=A.in1) hh ho hex hd hf U hz hl hn λI h2 d fp St ys kp hI Fs hp W st=>?_);have Fn:S∉fp:=λhm=>by
  rcases Fs S hm with z|z
  ·exact hSa z
  ·exact absurd hSl (Nat.not_lt.mpr z)
 have key:∀ (h:Heap) (c₁ tk:Nat),St 0 h->(∀ b o,b≠S->s.heap.get? b=some o->h.get? b=some o) ->
   h.get? S=some { cls:=.type "list",data:=.seq #[] c₁ }->codeAny (model prog w) A (.builtin "list.extend.loop" ⟨[.ref S,.ref I,res],[]⟩) R { s with heap:=h,toks:=tk,drawn:=d }:=by
  intro h c₁ tk hV hk PZ;refine codeAny_extend_loopS W.toS hn S Fn res es.size 0 _ #[] c₁ rfl (dy _) hV PZ (ItemsOf.nil _) λs' BF c' hm PY N3=>?_;rw[Moved.eq_with hm];refine hR s'.heap s'.toks d BF c' ys (λb o hb e=>hm.heap b o (λOO=>?_) (hk b o hb e)) PY hp N3;rcases dc.mp OO with e'|OO
  ·exact hb e'
  ·exact absurd (da e) (by rw[mw.mp OO];exact Nat.not_lt.mpr hI)
 have PZ:h2.get? S=some { cls:=.type "list",data:=.seq #[] c₀ }:=kp _ _ hS;refine ai (wpAny_holding (DK (s:={ s with heap:=h2,drawn:=d }) ⟨o,kp _ _ ho,hex.1⟩ ?_));refine wpAny_ite_split (λ_=>?_) (λ_=>aE ⟨plainId_quiet PySem.F.plain_extend_loop _,key _ c₀ _ st (λb o _ e=>kp b o e) PZ⟩);refine ai (wpAny_rule ?_);refine ai ?_;show wpAny _ _ (updateSeq S (·.push .none) >>= λ_=>updateSeq S (·.pop)) _ _ _;refine ai (wpAny_updateSeq PZ rfl ?_);have dI':=xB (Obj.mapSeq (·.push Value.none)) PZ rfl;refine wpAny_updateSeq (hz:=by seq_fits) dI' rfl ?_;have lj':=xB (Obj.mapSeq (·.pop)) dI' rfl;refine aE ⟨plainId_quiet PySem.F.plain_extend_loop _,key _ _ _ ?_ (λb o hb e=>?_) lj'⟩
 ·refine W.frame 0 _ _ st λb hb o e=>?_;have PR:b≠S:=λh=>Fn (h ▸ hb);exact(xA _ _ (Ne.symm PR)).trans ((xA _ _ (Ne.symm PR)).trans e)
 ·exact(xA _ _ (Ne.symm hb)).trans ((xA _ _ (Ne.symm hb)).trans (kp _ _ e))
theorem yF{ys:List (Int × Value)}{acc:Array Value}{n:Nat}(h:ItemsOf (PV ys) acc n)(hn:ys.length=n):acc.toList=ys.map (·.2):=by
 apply KW;intro i;rw[lI];by_cases hi:i<n
 ·have js:i<acc.size:=by rw[h.1];exact hi
  have e1:acc[i]? = some acc[i]:=y4 js;obtain⟨e,he,hv⟩:=h.2 i acc[i] e1;rw[oj,e1,he,hv];rfl
 ·rw[BU (by rw[xC,h.1];exact qa ‹_›),BU (by lia)];rfl
theorem lM {R:Result->Shared->Prop} (hh:A.handled=none) (ho:s.heap.get? a=some o) (hex:o.ExactSet) (hd:o.data=.set es ep t) (hf:t.fits es.size=true) (U:Up t.place) (hz:t.place.size=es.size) (hl:t.led=(!w.params.followText "set-order")) (hn:es.size<=sizeLine)(hR:∀ h' tk d BF c' ys,(∀ b o,s.heap.get? b=some o->h'.get? b=some o)->h'.get? s.heap.objs.size=some { cls:=.type "list",dict:=none,data:=.seq BF c',slots:=#[] }->ys.Perm es.toList->ItemsOf (PV ys) BF es.size->R (.ok (.ret (.ref s.heap.objs.size))) { s with heap:=h',toks:=tk,drawn:=d }) :
  codeAny (model prog w) A (.builtin "proto.collect" ⟨[.ref a],[]⟩) R s:=by
 have eu:a<s.heap.objs.size:=da ho;have hS:(s.heap.push { cls:=.type "list",data:=.seq ([]:List Value).toArray }).get? s.heap.objs.size=some { cls:=.type "list",data:=.seq ([]:List Value).toArray }:=gV _ rfl;refine codeAny_builtin F.entry_proto_collect ?_;rw[Around.under_plainId F.plain_proto_collect _];show wpAny _ A.in1 (newList [] >>= λl=>again (.builtin "list.__iadd__" ⟨[l,.ref a],[]⟩)) _ _ s;refine ai (wpAny_newObj_type ?_);refine aE ⟨plainId_quiet F.plain_list_iadd _,codeAny_builtin F.entry_list_iadd ?_⟩;rw[Around.under_plainId F.plain_list_iadd _];show wpAny _ A.in1 (Builtin.List.listExtendWith (.ref s.heap.objs.size) (.ref a) (.ref s.heap.objs.size)) _ _ _;exact Ho (R:=R) (s:={ s with heap:=s.heap.push { cls:=.type "list",data:=.seq ([]:List Value).toArray } }) hh (dA _ ho) hex hd hf U hz hl hn s.heap.objs.size (Rw eu) _ 0 hS λh' tk d BF c' ys kp eo hp ia =>
  hR h' tk d BF c' ys (λb o e=>kp b o (eL (da e)) (dA _ e)) eo hp ia
theorem nj {Q:List Value->Shared->Prop} (hh:A.handled=none) (ho:s.heap.get? a=some o) (hex:o.ExactSet) (hd:o.data=.set es ep t) (hf:t.fits es.size=true) (U:Up t.place) (hz:t.place.size=es.size) (hl:t.led=(!w.params.followText "set-order")) (hn:es.size<=sizeLine)(hQ:∀ h' tk d vs,(∀ b o,s.heap.get? b=some o->h'.get? b=some o)->s.heap.objs.size<=h'.objs.size->vs.Perm (es.toList.map (·.2))->Q vs { s with heap:=h',toks:=tk,drawn:=d }):wpAny (model prog w) A (collect (.ref a)) Q E s:=by
 unfold collect;refine ai (wpAny_runValue (lM hh ho hex hd hf U hz hl hn λh' tk d acc c ys kp eo hp ia=>?_));show wpAny _ A (load s.heap.objs.size >>= _) _ _ { s with heap:=h',toks:=tk,drawn:=d };refine ai (wpAny_load eo ?_);refine aE (hQ h' tk d _ kp (ky (da eo)) ?_);rw[yF ia (by rw[hp.length_eq];simp)];exact hp.map _
end
end TS
namespace zv
open PySem PyProof.Rows
section
variable {prog:Program}{w:World}{A:Around}{E:Value->Shared->Prop}{s:Shared}{κ:SortKind}{r:Value->Int}{P:Value->Prop}
theorem m8{v:Value}{R:List Value->Prop}{Q:Value->Shared->Prop}(lk':∀ (A':Around) (E':Value->Shared->Prop) (Q':List Value->Shared->Prop),A'.handled=A.handled->(∀ vs h1 tk d,R vs->(∀ b o,s.heap.get? b=some o->h1.get? b=some o)->s.heap.objs.size<=h1.objs.size->Q' vs { s with heap:=h1,toks:=tk,drawn:=d })->wpAny (model prog w) A' (collect v) Q' E' s) (hsz:∀ vs,R vs->vs.length<=sizeLine) (hP:∀ vs,R vs->∀ v∈vs,P v) (hk:∀ vs,R vs->2<=vs.length->∀ (A':Around) (E':Value->Shared->Prop) (s':Shared),(∀ b o,s.heap.get? b=some o->s'.heap.get? b=some o)->∀ (Q:SortKind->Shared->Prop),Q κ s'->wpAny (model prog w) A' (keyKind' vs.toArray) Q E' s') (C:∀ (s':Shared),(∀ b o,s.heap.get? b=some o->s'.heap.get? b=some o)->mS prog w A.in1.in1 s' κ r P) (h:∀ (vs:List Value) (h':Heap) (a:Addr) (out:List Value) (n tk:Nat) d,R vs->out.Perm vs->(out.Pairwise λx y=>r x<=r y)->(∀ b o,s.heap.get? b=some o->h'.get? b=some o)->s.heap.objs.size<=a->h'.get? a=some (seqObj "list" out.toArray n)->Q (.ref a) { s with heap:=h',toks:=tk,drawn:=d }) :
  wpAny (model prog w) A (call (.builtin "sorted") [v]) Q E s:=by
 walk_at"aj";unfold Builtin.«sorted»;refine ai (m:=checkCount "sorted" 1 1 _) (aE ?_);refine ai (lk' _ _ _ rfl λvs h1 tk d hR kp hz=>?_);have Ap:=hsz vs hR;refine ai (wpAny_newList ?_ (by simpa using Ap));have Cb:(h1.push (seqObj "list" vs.toArray 0)).get? h1.objs.size=some (seqObj "list" vs.toArray 0):=gV _ rfl;have old:∀ b o,s.heap.get? b=some o->(fH (h1.push (seqObj "list" vs.toArray 0)) h1.objs.size vs).get? b=some o:=λb o e=>by have eu:b<h1.objs.size:=da (kp b o e);rw[nY (eL eu) (by rw[size_push'];exact rz eu)];exact dA _ (kp b o e)
 show wpAny _ _ _ _ _ { s with heap:=h1.push (seqObj "list" vs.toArray 0),toks:=tk,drawn:=d };refine ai (wpAny_holding (wpAny_call_entry slot_list_sort ⟨_,Cb,rfl⟩ entry_list_sort (lu (r:=r) (s:={ s with heap:=h1.push (seqObj "list" vs.toArray 0),toks:=tk,drawn:=d }) Cb Ap (hP vs hR) (λh2=>hk vs hR h2 _ _ _ old) (λh2=>C _ old) λout a1 a2=>⟨_,rfl,?_⟩) (args_list_sort _)))
 obtain⟨n,e⟩:=sortedHeap_at (out:=out) Cb;refine aE ⟨_,rfl,h vs _ h1.objs.size out.toList n tk d hR a1 a2 (λb o e=>?_) hz (by rw[Ul];exact e)⟩;have eu:b<h1.objs.size:=da (kp b o e);rw[sortedHeap_old (eL eu) (by rw[size_push'];exact rz eu)];exact dA _ (kp b o e)
end
end zv
namespace TS
open PySem PySem.SetTable PyProof.Rows
section
variable {prog:Program}{w:World}{K:Type}[DecidableEq K]{knd:KeyKind prog w K}{A:Around}{E:Value->Shared->Prop}{s:Shared}
theorem xN{α:Type}(led:Bool):TI (α:=α) (SetTable.fresh 0 0 led) #[] :=
 ⟨⟨3,rfl,bE _⟩,rfl,λi j h hj=>absurd hj (D9 _),λi hi=>absurd hi (D9 _),rfl,(by show 0*5<7*3;decide),λi h x e=>by simp at e⟩
theorem uV{l:Addr}{items:Array Value}{xs:List (List K × Addr)}{Q:Value->Shared->Prop}(hh:A.handled=none)(hu:A.units+8<cLine)(hl:s.heap.IsList l items)(hi:items.toList=xs.map λp=>Value.ref p.2)(vn:∀ p∈xs,IsTupleKey knd s.heap p.1 p.2) (hz:xs.length<=1000) (rX:∀ k v,knd.is k v=true->v.scannable=true)(h:∀ h' tk ks,IQ knd h' s.heap.objs.size ks->(∀ k,k∈ks.map (·.1)↔k∈xs.map (·.1))->(∀ p∈ks,p∈xs)->(∀ b o,s.heap.get? b=some o->h'.get? b=some o)->Q (.ref s.heap.objs.size) { s with heap:=h',toks:=tk }) :
  wpAny (model prog w) A (call (.type "set") [.ref l]) Q E s:=by
 have lt:∀ p∈xs,p.2<s.heap.objs.size:=λp hp=>by obtain⟨o,_,_,ho,_⟩:=vn p hp;exact da ho
 refine kY hh hl (λi h=>∃ ks,IQ knd h s.heap.objs.size ks/\(∀ k,k∈ks.map (·.1)↔k∈(xs.take i).map (·.1))/\(∀ p∈ks,p∈xs)/\ks.length<=i/\∀ p∈xs,IsTupleKey knd h p.1 p.2) (λh e k=>?_) (λi h h' ⟨ks,S,m1,m2,m3,m4⟩ k=>?_) (λi v s' E' Q' hv ⟨ks,S,m1,m2,m3,m4⟩ q=>?_) λh' tk ⟨ks,S,m1,m2,m3,m4⟩ k=>?_
 ·exact⟨[],⟨⟨_,#[],0,_,e,⟨rfl,rfl,rfl⟩,rfl,xN _,(by show 7<=8191;decide),rfl,rfl⟩,kA,λp hp=>nomatch hp⟩,λk=>by simp,(λp hp=>nomatch hp),bE _,λp hp=>IsTupleKey.fA (vn p hp) λo ho=>k _ _ ho⟩
 ·obtain⟨⟨o,es,ep,t,ho,r⟩,nd,is⟩:=S;exact⟨ks,⟨⟨o,es,ep,t,k _ _ (bE _) ho,r⟩,nd,λp hp=>IsTupleKey.fA (is p hp) λo ho=>k _ _ (ky (lt p (m2 p hp))) ho⟩,m1,m2,m3,λp hp=>IsTupleKey.fA (m4 p hp) λo ho=>k _ _ (ky (lt p hp)) ho⟩
 ·have sq:items.toList[i]? = some v:=by rw[oj];exact hv
  rw[hi,lI] at sq
  cases ex:xs[i]? with
  |none=>rw[ex] at sq;cases sq
  |some p =>
   rw[ex] at sq;cases sq;have hp:=rp ex;have hil:i<xs.length:=(pT.mp ex).1;have VS:(xs.take (i+1)).map (·.1)=(xs.take i).map (·.1)++[p.1]:=by rw[D6,ex,D8];rfl
   unfold setAdd;refine wpAny_holding (ai (wpAny_pyHash_tuple (by show A.units+3<cLine;lia) (m4 p hp) ?_));refine Ja (s:={ s' with toks:=s'.toks+(p.1.length+1) }) S (m4 p hp) (by lia) (by show A.units+3<cLine;lia) rX λb h' dn sb S' c=>?_;refine q b h' _ sb ⟨dn,S',λk=>?_,λp' ic=>?_,?_,λp' ic=>IsTupleKey.fA (m4 p' ic) λo ho=>sb.extBut _ _ (eL (lt p' ic)) ho⟩
   ·rw[VS,eI,mw,<- m1];rcases c with⟨c1,rfl⟩|⟨c1,c2⟩
    ·exact⟨.inl,λz=>z.elim id λe=>e ▸ c1⟩
    ·rw[(c2.map _).mem_iff,fz,dc];exact⟨λz=>z.symm,λz=>z.symm⟩
   ·rcases c with⟨c1,rfl⟩|⟨c1,c2⟩
    ·exact m2 p' ic
    ·rcases dc.mp (c2.mem_iff.mp ic) with rfl|z
     ·exact hp
     ·exact m2 p' z
   ·rcases c with⟨c1,rfl⟩|⟨c1,c2⟩
    ·exact FV ‹_›
    ·rw[c2.length_eq];simp;lia
 ·have e:items.size=xs.length:=by have:=congrArg List.length hi;simpa using this
  rw[e,Lc] at m1;exact h h' tk ks S m1 m2 λb o ho=>k b o (da ho) ho
end
end TS
namespace L2
open PySem PySem.Spec PyProof.Rows
section
variable {X:Cx}{pins:List (Addr × Obj)}{σ:St}{H:Hp}{s:Shared}
theorem Inv.drawn{d}(I:Inv X pins σ H s):Inv X pins σ H { s with drawn:=d }:=⟨I.ok,I.os,I.bare,I.base,I.loc,I.cell,I.free,I.nE,I.pin,I.aS,I.len⟩
theorem wV{prog:Program}{w:World}:∀ (k:Key) (v:Value),(kL prog w).is k v=true->v.scannable=true:=λk v h=>by rcases y8 h with⟨i,t,rfl,rfl⟩|⟨x,t,rfl,rfl⟩<;>rfl
def jF(K:PySem.W.Frag):V->Hp->VK->Prop:=λx H Q=>match x with
 |.ref p=>∃ ys ks b0 sh,eJ K H p ys/\ys.length<=1000/\dg H ys ks/\(∀ k∈ks,ip k=b0 :: sh) /\
   ∀ zs ms l,dg H zs ms->ms.Nodup->(∀ k,k∈ms↔k∈ks)->(ms.Pairwise λa b=>gv b a=false)->H l=none->Q (.ref l) (upd H l (.lst zs))
 |_=>False
theorem dg.pairs{H:Hp}{ys:List V}{ks:List (List Key)}{vs:List Value}(h:dg H ys ks)(hv:Vals ys vs):∃ xs:List (List Key × Addr),vs=xs.map (λp=>Value.ref p.2)/\xs.map (·.1)=ks/\∀ p∈xs,H p.2=some (.tup (p.1.map kV)):=by
 induction ys generalizing ks vs with
 |nil=>exact⟨[],Paired.n0 hv,(show ks=[] from Paired.n0 h).symm,λp hp=>nomatch hp⟩
 |cons y ys ih =>
  obtain⟨k,ks,rfl,⟨b,rfl,g⟩,t⟩:=Paired.c h;walk_at"aM";obtain⟨xs,e1,e2,e3⟩:=ih t rs;refine⟨(k,b) :: xs,by rw[e1];rfl,by rw[<- e2];rfl,λp hp=>?_⟩;rcases dc.mp hp with rfl|hp
  ·exact g
  ·exact e3 p hp
end
section
variable {X:Cx}{e:Expr}{te:TE}{p p2 pos sQ:Pos}
theorem vL (hc:X.calm=true) (hu:X.A.units+64<cLine) (hg:Gl X "sorted") (hm:X.mg "sorted" = none) (Fu:Gl X "set") (qq:X.mg "set" = none) (he:PE X e te)(hv:bootBuiltins "sorted" = some (.builtin "sorted")) (VW:bootBuiltins "set" = some (.type "set"))(sf:starEach [e] X.env=(false,eval e X.env) :: starEach [] X.env:=by rfl) (hs:starEach [.Call (.Name "set" p2) [e] [] sQ] X.env=(false,eval (.Call (.Name "set" p2) [e] [] sQ) X.env) :: starEach [] X.env:=by rfl) :
  PE X (.Call (.Name "sorted" p) [.Call (.Name "set" p2) [e] [] sQ] [] pos) (tUn (jF X.K) te):=by
 walk_at"x";walk_at"aP";refine PyProof.Rows.callWith_builtin1 ?_ hs rfl;rw[hs];refine Calls.spliced_cons ?_;walk_at"aQ";refine PyProof.Rows.callWith_type1 ?_ sf rfl;rw[sf];walk_at"N";have q1:jF X.K x H1 Q:=q1;obtain⟨a,rfl⟩:∃ a,x=.ref a:=by
  unfold jF at q1;split at q1
  ·exact⟨_,rfl⟩
  ·exact q1.elim
 obtain⟨ys,ks,b0,sh,hl,hz1,ht,HM,q⟩:=q1;cases r1;obtain⟨vs,rv,pl,hz⟩:=I1.list hl;obtain⟨xs,ex,ek,hx⟩:=ht.pairs rv;have EW:X.A.handled=none:=I1.ok.hd hc;have hlen:xs.length=ys.length:=by rw[rv.length,ex,cE]
 have vn:∀ p∈xs,IsTupleKey (kL X.prog X.w) s1.heap p.1 p.2:=λp hp=>by obtain⟨us,ru,o,e1,c1,n1,d1⟩:=I1.tup (hx p hp);exact⟨o,us.toArray,n1,e1,c1,d1,by simpa using UQ ru⟩
 refine TS.uV (knd:=kL X.prog X.w) EW (by lia) pl.isList (by simpa using ex) vn (by lia) wV λh2 tk dn S m1 m2 kp=>?_;refine Calls.spliced_nil ?_;obtain⟨⟨o,es,ep,t,ho,hex,hd,T,hM,hL,BD⟩,nd,is⟩:=S;have VX:es.toList.map (·.2)=dn.map λp=>Value.ref p.2:=by rw[BD,mz];rfl
 have lm':dn.length<=1000:=by
  have:=TS.cR nd (m:=ks) λk hk=>by rw[<- ek];exact(m1 k).mp hk
  rw[cE] at this;have:ks.length=xs.length:=by rw[<- ek,cE]
  lia
 have VY:es.size=dn.length:=by have:=congrArg List.length BD;walk_at"aI"
 have VZ:∀ p∈dn,p.1∈ks:=λp hp=>by rw[<- ek];exact de.mpr ⟨p,m2 p hp,rfl⟩
 have mem:∀ gy:List Value,gy.Perm (dn.map λp=>Value.ref p.2)->∀ v∈gy,∃ b k,v=.ref b/\H1 b=some (.tup (k.map kV))/\k∈ks:=λgy pv v hv=>by obtain⟨p,hp,rfl⟩:=de.mp (pv.mem_iff.mp hv);exact⟨p.2,p.1,rfl,hx p (m2 p hp),VZ p hp⟩
 have P1:s1.heap.objs.size<=h2.objs.size:=ky (da ho);refine zv.m8 (s:={ s1 with heap:=h2,toks:=tk }) (κ:=tuples' true) (R:=λgy=>gy.Perm (dn.map λp=>Value.ref p.2)) (r:=λv=>zI ks (pD H1 v)) (P:=λv=>∃ b k,v=.ref b/\H1 b=some (.tup (k.map kV))/\ip k=b0 :: sh/\k∈ks) (λA' E' Q' hA hQ=>TS.nj (s:={ s1 with heap:=h2,toks:=tk }) (hA.trans EW) ho hex hd T.fits T.up T.sz hL (by rw[VY,sizeLine_eq];lia) λh' BE d gy vv Ts pv=>hQ gy h' BE d (by rw[<- VX];exact pv) vv Ts) (λgy pv=>by rw[pv.length_eq,cE,sizeLine_eq];lia) (λgy pv v hv=>?_) (λgy pv Tt A' E' s' vv Q' q'=>?_) (λs' vv=>xO I1 λb o e=>vv b o (kp b o e)) λgy h' a' out n BE d pv pm pw vv ha eo=>?_
 ·obtain⟨b,k,e1,e2,e3⟩:=mem gy pv v hv;exact⟨b,k,e1,e2,HM k e3,e3⟩
 ·obtain⟨zs,z1,z2⟩:=dg.of (H:=H1) (ks:=ks) gy (mem gy pv);obtain⟨fs,f1,f2,f3⟩:=kat_tups I1 (s':=s') (λb o e=>vv b o (kp b o e)) z1 z2 λk hk=>by obtain⟨v,hv,rfl⟩:=de.mp hk;obtain⟨b,k,rfl,e2,e3⟩:=mem gy pv v hv;rw[dG e2];exact HM k e3
  cases b0 with
  |true =>refine PySem.W.kat_kind (T:=.type "int") f1 (by lia) (λf hf=>?_) (by decide) q';obtain⟨i,t,rfl⟩:=(f3 f hf).1 rfl;exact .now
  |false =>refine PySem.W.kat_kind (T:=.type "str") f1 (by lia) (λf hf=>?_) (by decide) q';obtain⟨i,t,rfl⟩:=(f3 f hf).2 rfl;exact .now
 ·have DZ:=pm.trans pv;obtain⟨zs,z1,z2⟩:=dg.of (H:=H1) (ks:=ks) out λv hv=>mem _ DZ v hv;have zl:=z2.length;have ol:=DZ.length_eq;rw[cE] at ol;have V0:(dn.map λp=>Value.ref p.2).map (pD H1)=dn.map (·.1):=by rw[mz];exact D5 λp hp=>dG (hx p (m2 p hp))
  have SQ:(out.map (pD H1)).Perm (dn.map (·.1)):=by rw[<- V0];exact DZ.map _
  refine⟨.ref a',_,(I1.laid (a:=a') (t':=BE) (λb o e=>vv b o (kp b o e)) (fP P1 ha) (show fh X.prog X.w _ h' _ (.lst zs) from⟨by rw[sizeLine_eq];lia,out,n,z2,eo⟩)).drawn,rfl,
   q zs _ _ z1 (SQ.nodup_iff.mpr nd) (λk=>by rw[SQ.mem_iff,m1,ek]) ?_ (I1.aS.fresh (fP P1 ha))⟩
  rw[wa];refine pw.imp_of_mem λ{x y} mx my hle=>?_;obtain⟨b,k,rfl,hb,kk⟩:=mem _ DZ x mx;obtain⟨c,m,rfl,rS,km⟩:=mem _ DZ y my;rw[dG hb,dG rS] at *
  have:=uw (L:=ks) ((HM m km).trans (HM k kk).symm) km;rw[<- this];exact decide_eq_false (by lia)
end
end L2
namespace TS
open PySem PySem.SetTable PyProof.Rows
section
variable {t:SetTable}{es:Array (Int × Value)}
theorem Bu(T:TI t es)(h:Int)(x:Value):∃ j,j<=t.mask/\taken t.place j=false/\Reach t.mask t.place h j /\
  layNew t es h x=(insertAt es (below t.place j) (h,x),{ t with place:=insertAt t.place (below t.place j) j,dummies:=#[] },false,false):=by
 obtain⟨m,hm,_⟩:=T.pw;obtain⟨e0,VJ,VL⟩:=T.free;obtain⟨nf,n1,n2,n3⟩:=qe hm h (taken t.place) VJ VL;obtain⟨n',a1,a2,a3,a4⟩:=sH T (λ_=>h+1) h (10*turns t.mask) 0 ⟨nf,dy _,by unfold turns;lia,n2⟩;rcases a4 with⟨c1,c2⟩|⟨_,c2,_⟩
 ·have RX:n'<=nf:=by
   by_cases z:n'<=nf
   ·exact z
   ·have:=(a3 nf (dy _) (by exact FU ‹_›)).1;rw[n2] at this;cases this
  refine⟨J t.mask h n',Tj ..,c1,⟨n',by walk_at "s1",rfl,λq hq=>(a3 q (dy _) hq).1⟩,?_⟩;have UW:t.freeSlot h=some (J t.mask h n',false):=by unfold SetTable.freeSlot;have:t.probe (λ_=>h+1) h (t.probeStart h)=some (.empty (J t.mask h n') none):=c2;rw[this];rfl
  have VP:t.put (J t.mask h n')=({ t with place:=insertAt t.place (below t.place (J t.mask h n')) (J t.mask h n'),dummies:=#[] },below t.place (J t.mask h n')):=by
   unfold SetTable.put;have:has t.dummies (J t.mask h n')=false:=by rw[T.dm];rfl
   simp only[this,gX,if_false];rw[T.dm]
  have hb:=(a_ T.up (J t.mask h n')).1;have S_:({ t with place:=insertAt t.place (below t.place (J t.mask h n')) (J t.mask h n'),dummies:=#[] }:SetTable).fits (insertAt es (below t.place (J t.mask h n')) (h,x)).size=true:=by have:=T.few;have hsz:(insertAt es (below t.place (J t.mask h n')) (h,x)).size=es.size+1:=cg _ _ (by rw[<- T.sz];exact hb);simp only[SetTable.fits,SetTable.fill,hsz,cg _ _ hb,T.sz,i7,beq_iff_eq,decide_eq_true_eq,true_and];simp;lia
  unfold layNew;rw[UW];dsimp only;rw[VP];dsimp only;unfold SetTable.orStandIn;rw[S_];rfl
 ·exact absurd c2 (by lia)
end
section
variable {prog:Program}{w:World}{K:Type}[DecidableEq K]{knd:KeyKind prog w K}
def P2(knd:KeyKind prog w K)(p:K × Value):Int × Value:=(knd.hash p.1,p.2)
structure Tv(knd:KeyKind prog w K)(h:Heap)(a:Addr)(ks:List (K × Value)):Prop where
 ob:∃ o es ep t,h.get? a=some o/\o.ExactSet/\o.data=.set es ep t/\TI t es/\t.mask<=8191/\t.led=(!w.params.followText "set-order")/\es.toList=ks.map (P2 knd)
 nd:(ks.map (·.1)).Nodup
 is:∀ p∈ks,knd.is p.1 p.2=true
variable {A:Around}{E:Value->Shared->Prop}{s:Shared}
theorem Fx{a:Addr}{x:Value}{k:K}{ks:List (K × Value)}(S:Tv knd s.heap a ks)(hx:knd.is k x=true)(hz:ks.length<1000)(rX:∀ k v,knd.is k v=true->v.scannable=true){Q:Bool->Shared->Prop}(h:∀ (b:Bool) (h':Heap) (dn:List (K × Value)),Heap.SameBut a s.heap h'->Tv knd h' a dn->(k∈ks.map (·.1)/\dn=ks\/k∉ks.map (·.1)/\dn.Perm ((k,x) :: ks))->Q b { s with heap:=h' }) :
  wpAny (model prog w) A (setAddHashed a x (knd.hash k)) Q E s:=by
 obtain⟨⟨o,es,ep,t,ho,hex,hd,T,hM,hL,he⟩,nd,is⟩:=id S;have hlen:es.size=ks.length:=by have:=congrArg List.length he;walk_at"aI"
 have IU:ElemsOf knd es.toList:=λe hm=>by rw[he] at hm;obtain⟨p,hp,rfl⟩:=de.mp hm;exact⟨⟨p.1,is p hp,rfl⟩,rX _ _ (is p hp)⟩
 have HP:scanBound=4096:=rfl;unfold setAddHashed setAddHashedIn;walk_at"bi";dsimp only;rw[byScan_of (rX _ _ hx) (by lia) IU];simp only[↓reduceIte];unfold setAddByScan;refine ai ?_;refine ai (wpAny_rule ?_);refine ai (wpAny_setScan_of hx ho hd T.fits IU ?_)
 cases hr:List.findIdx? (λe=>knd.is k e.2) es.toList with
 |some j =>
  dsimp only;refine aE (aE ?_);obtain⟨hj,hpj,_⟩:=List.findIdx?_eq_some_iff_getElem.mp hr;have hm:es.toList[j]∈ks.map (P2 knd):=by rw[<- he];exact K0 hj
  obtain⟨p,hp,LZ⟩:=de.mp hm;rw[<- LZ] at hpj;have hk:k=p.1:=knd.inj p.2 k p.1 hpj (is p hp);have e:s={ s with heap:=s.heap }:=by cases s;rfl
  rw[e];exact h _ _ ks (Heap.SameBut.refl a s.heap) S (.inl ⟨de.mpr ⟨p,hp,hk.symm⟩,rfl⟩)
 |none =>
  dsimp only;have A7:k∉ks.map (·.1):=λhm=>by obtain⟨p,hp,rfl⟩:=de.mp hm;have:=List.findIdx?_eq_none_iff.mp hr (P2 knd p) (by rw[he];exact de.mpr ⟨p,hp,rfl⟩);rw[show knd.is p.1 (P2 knd p).2=true from is p hp] at this;cases this
  obtain⟨j,VM,n2,VN,hlay⟩:=Bu T (knd.hash k) x;rw[hlay];dsimp only;refine ai (aE ?_);have nS:(insertAt es (below t.place j) (knd.hash k,x)).toList=(ks.take (below t.place j)++(k,x) :: ks.drop (below t.place j)).map (P2 knd):=by rw[qy,he,D8,fz,Lv,LB];rfl
  have vt:(ks.take (below t.place j)++(k,x) :: ks.drop (below t.place j)).Perm ((k,x) :: ks):=by refine List.perm_middle.trans ?_;rw[FP]
  have DU:below t.place j<=es.size:=by rw[<- T.sz];exact(a_ T.up j).1
  have Ap:(insertAt es (below t.place j) (knd.hash k,x)).size=es.size+1:=cg _ _ DU;have PF:∀ dn:List (K × Value),dn.Perm ((k,x) :: ks)->∀ p∈dn,knd.is p.1 p.2=true:=λdn pm p hp=>by
   rcases dc.mp (pm.mem_iff.mp hp) with rfl|hp
   ·exact hx
   ·exact is p hp
  have PH:∀ dn:List (K × Value),dn.Perm ((k,x) :: ks)->(dn.map (·.1)).Nodup:=λdn pm=>by rw[(pm.map _).nodup_iff,fz,ny];exact⟨A7,nd⟩
  have main:∀ t':SetTable,t'.mask=t.mask->t'.place=insertAt t.place (below t.place j) j->t'.dummies = #[]->t'.led=t.led->wpAny (model prog w) A (do
    storeSet a (insertAt es (below t.place j) (knd.hash k,x)) t'
    if (!false && t'.tooFull)=true then do
      J2 (relayAll t' (insertAt es (below t.place j) (knd.hash k,x)) (grown (insertAt es (below t.place j) (knd.hash k,x)).size)).2.2
      storeSet a (relayAll t' (insertAt es (below t.place j) (knd.hash k,x)) (grown (insertAt es (below t.place j) (knd.hash k,x)).size)).1 (relayAll t' (insertAt es (below t.place j) (knd.hash k,x)) (grown (insertAt es (below t.place j) (knd.hash k,x)).size)).2.1
      pure (some true)
     else pure (some true)) (λr s'=>wpAny (model prog w) A (match r with|some added=>pure added|none=>setAddHashedIn a x (knd.hash k) 99999) Q E s') E s:=λt' tm tp td tl=>by
   have Tp:t'.fill=es.size+1:=by unfold SetTable.fill;rw[tp,td,cg _ _ (a_ T.up j).1,T.sz];simp
   walk_at"aV";have sD:(s.heap.update a (Obj.putSet (insertAt es (below t.place j) (knd.hash k,x)) t')).get? a=some { o with data:=.set (insertAt es (below t.place j) (knd.hash k,x)) (ep+1) t' }:=by have:=xB (Obj.putSet (insertAt es (below t.place j) (knd.hash k,x)) t') ho (by rw[putSet_of _ _ hd];rfl);rw[putSet_of _ _ hd] at this;exact this
   have sP:=Heap.SameBut.update s.heap a (Obj.putSet (insertAt es (below t.place j) (knd.hash k,x)) t');by_cases c:t'.tooFull=true
   ·rw[if_pos (by rw[c];rfl)];obtain⟨t2,order,r1,r2,r3,r4,r5,r6,r7,r8,r9⟩:=uN (t:=t') (es:=insertAt es (below t.place j) (knd.hash k,x)) (by lia);have ln':relayAll t' (insertAt es (below t.place j) (knd.hash k,x)) (grown (insertAt es (below t.place j) (knd.hash k,x)).size)=(order.filterMap λi=>(insertAt es (below t.place j) (knd.hash k,x))[i]?,t2,false):=by unfold relayAll;rw[r1];dsimp only;rw[if_pos];rw[i7];refine⟨?_,r6.fits⟩;unfold coversAll;rw[List.isPerm_iff];exact r9
    rw[ln'];dsimp only;refine ai (aE ?_);obtain⟨dn,ek,pk⟩:=lr r8 nS;refine ai (wpAny_storeSet_of sD rfl ?_ (by rw[r7,Ap,sizeLine_eq];lia));refine aE (aE ?_);have DV:=sP.trans (Heap.SameBut.update _ a (Obj.putSet (order.filterMap λi=>(insertAt es (below t.place j) (knd.hash k,x))[i]?) t2));have tI:=xB (Obj.putSet (order.filterMap λi=>(insertAt es (below t.place j) (knd.hash k,x))[i]?) t2) sD (by rw[putSet_of _ _ rfl];rfl);rw[putSet_of _ _ rfl] at tI;exact h true _ dn DV ⟨⟨_,_,_,_,tI,hex,rfl,r6,r5 (by lia),by rw[r3,tl];exact hL,ek⟩,PH dn (pk.trans vt),PF dn (pk.trans vt)⟩ (.inr ⟨A7,pk.trans vt⟩)
   ·rw[if_neg (by simpa using c)];refine aE (aE ?_);have pe:(es.size+1)*5<t.mask*3:=by unfold SetTable.tooFull at c;rw[Tp,tm] at c;simpa using c
    exact h true _ _ sP ⟨⟨_,_,_,_,sD,hex,rfl,T.put VM n2 VN tm tp td pe,by rw[tm];exact hM,by rw[tl];exact hL,nS⟩,PH _ vt,PF _ vt⟩ (.inr ⟨A7,vt⟩)
  split
  ·refine ai ?_;rw[hashByValue_scannable 8 (rX _ _ hx)];refine aE ?_;split
   ·exact main _ rfl rfl rfl rfl
   ·exact main _ rfl rfl rfl rfl
  ·refine ai (aE ?_);rw[if_pos rfl];exact main _ rfl rfl rfl rfl
end
section
variable {prog:Program}{w:World}{K:Type}[DecidableEq K]{knd:KeyKind prog w K}{A:Around}{E:Value->Shared->Prop}{s:Shared}
theorem sU{l:Addr}{items:Array Value}{xs:List (K × Value)}{Q:Value->Shared->Prop}(hh:A.handled=none)(hl:s.heap.IsList l items)(hi:items.toList=xs.map (·.2))(vn:∀ p∈xs,knd.is p.1 p.2=true) (hz:xs.length<=1000) (rX:∀ k v,knd.is k v=true->v.scannable=true)(h:∀ h' tk ks,Tv knd h' s.heap.objs.size ks->(∀ k,k∈ks.map (·.1)↔k∈xs.map (·.1))->(∀ p∈ks,p∈xs)->(∀ b o,s.heap.get? b=some o->h'.get? b=some o)->Q (.ref s.heap.objs.size) { s with heap:=h',toks:=tk }) :
  wpAny (model prog w) A (call (.type "set") [.ref l]) Q E s:=by
 refine kY hh hl (λi h=>∃ ks,Tv knd h s.heap.objs.size ks/\(∀ k,k∈ks.map (·.1)↔k∈(xs.take i).map (·.1))/\(∀ p∈ks,p∈xs)/\ks.length<=i) (λh e k=>?_) (λi h h' ⟨ks,S,m1,m2,m3⟩ k=>?_) (λi v s' E' Q' hv ⟨ks,S,m1,m2,m3⟩ q=>?_) λh' tk ⟨ks,S,m1,m2,m3⟩ k=>?_
 ·exact⟨[],⟨⟨_,#[],0,_,e,⟨rfl,rfl,rfl⟩,rfl,xN _,(by show 7<=8191;decide),rfl,rfl⟩,kA,λp hp=>nomatch hp⟩,λk=>by simp,(λp hp=>nomatch hp),bE _⟩
 ·obtain⟨⟨o,es,ep,t,ho,r⟩,nd,is⟩:=S;exact⟨ks,⟨⟨o,es,ep,t,k _ _ (bE _) ho,r⟩,nd,is⟩,m1,m2,m3⟩
 ·have sq:items.toList[i]? = some v:=by rw[oj];exact hv
  rw[hi,lI] at sq
  cases ex:xs[i]? with
  |none=>rw[ex] at sq;cases sq
  |some p =>
   rw[ex] at sq;cases sq;have hp:=rp ex;have hil:i<xs.length:=(pT.mp ex).1;have VS:(xs.take (i+1)).map (·.1)=(xs.take i).map (·.1)++[p.1]:=by rw[D6,ex,D8];rfl
   unfold setAdd;refine wpAny_holding (ai (knd.pyHash (k:=p.1) (vn p hp) ?_));refine Fx (s:={ s' with toks:=s'.toks+1 }) S (vn p hp) (by lia) rX λb h' dn sb S' c=>?_;refine q b h' _ sb ⟨dn,S',λk=>?_,λp' ic=>?_,?_⟩
   ·rw[VS,eI,mw,<- m1];rcases c with⟨c1,rfl⟩|⟨c1,c2⟩
    ·exact⟨.inl,λz=>z.elim id λe=>e ▸ c1⟩
    ·rw[(c2.map _).mem_iff,fz,dc];exact⟨λz=>z.symm,λz=>z.symm⟩
   ·rcases c with⟨c1,rfl⟩|⟨c1,c2⟩
    ·exact m2 p' ic
    ·rcases dc.mp (c2.mem_iff.mp ic) with rfl|z
     ·exact hp
     ·exact m2 p' z
   ·rcases c with⟨c1,rfl⟩|⟨c1,c2⟩
    ·exact FV ‹_›
    ·rw[c2.length_eq];simp;lia
 ·have e:items.size=xs.length:=by have:=congrArg List.length hi;simpa using this
  rw[e,Lc] at m1;exact h h' tk ks S m1 m2 λb o ho=>k b o (da ho) ho
end
end TS
namespace L2
open PySem PySem.Spec PyProof.Rows
def jD(K:PySem.W.Frag):V->Hp->VK->Prop:=λx H Q=>match x with
 |.ref p=>∃ (ks:List Key) (b:Bool),eJ K H p (ks.map kV)/\ks.length<=1000/\(∀ k∈ks,oz k=b) /\
   ∀ (ms:List Key) (l:Addr),ms.Nodup->(∀ k,k∈ms↔k∈ks)->(ms.Pairwise λa b=>pz b a=false)->H l=none->Q (.ref l) (upd H l (.lst (ms.map kV)))
 |_=>False
theorem yX{ks:List Key}{vs:List Value}(h:Vals (ks.map kV) vs):∃ xs:List (Key × Value),vs=xs.map (·.2)/\xs.map (·.1)=ks/\∀ p∈xs,RelV (kV p.1) p.2:=by
 induction ks generalizing vs with
 |nil=>exact⟨[],Paired.n0 h,rfl,λp hp=>nomatch hp⟩
 |cons k ks ih =>
  obtain⟨v,vs,rfl,r,rs⟩:=Paired.c h;obtain⟨xs,e1,e2,e3⟩:=ih rs;refine⟨(k,v) :: xs,by rw[e1];rfl,by rw[<- e2];rfl,λp hp=>?_⟩;rcases dc.mp hp with rfl|hp
  ·exact r
  ·exact e3 p hp
section
variable {X:Cx}{e:Expr}{te:TE}{p p2 pos sQ:Pos}
theorem wL (hc:X.calm=true) (hg:Gl X "sorted") (hm:X.mg "sorted" = none) (Fu:Gl X "set") (qq:X.mg "set" = none) (he:PE X e te)(hv:bootBuiltins "sorted" = some (.builtin "sorted")) (VW:bootBuiltins "set" = some (.type "set"))(sf:starEach [e] X.env=(false,eval e X.env) :: starEach [] X.env:=by rfl) (hs:starEach [.Call (.Name "set" p2) [e] [] sQ] X.env=(false,eval (.Call (.Name "set" p2) [e] [] sQ) X.env) :: starEach [] X.env:=by rfl) :
  PE X (.Call (.Name "sorted" p) [.Call (.Name "set" p2) [e] [] sQ] [] pos) (tUn (jD X.K) te):=by
 walk_at"x";walk_at"aP";refine PyProof.Rows.callWith_builtin1 ?_ hs rfl;rw[hs];refine Calls.spliced_cons ?_;walk_at"aQ";refine PyProof.Rows.callWith_type1 ?_ sf rfl;rw[sf];walk_at"N";have q1:jD X.K x H1 Q:=q1;obtain⟨a,rfl⟩:∃ a,x=.ref a:=by
  unfold jD at q1;split at q1
  ·exact⟨_,rfl⟩
  ·exact q1.elim
 obtain⟨ks,b,hl,hz1,hb,q⟩:=q1;cases r1;obtain⟨vs,rv,pl,hz⟩:=I1.list hl;obtain⟨xs,ex,ek,hx⟩:=yX rv;have EW:X.A.handled=none:=I1.ok.hd hc;have hlen:xs.length=ks.length:=by rw[<- ek,cE]
 have vn:∀ p∈xs,(kL X.prog X.w).is p.1 p.2=true:=λp hp=>by
  obtain⟨k,v⟩:=p;have r:=hx _ hp;rw[fA']
  cases k with
  |inl i=>obtain⟨t,e⟩:=r;rw[show v=_ from e];exact aX' ..
  |inr x=>obtain⟨t,e⟩:=r;rw[show v=_ from e];exact aY' ..
 refine TS.sU (knd:=kL X.prog X.w) EW pl.isList (by simpa using ex) vn (by lia) wV λh2 tk dn S m1 m2 kp=>?_;refine Calls.spliced_nil ?_;obtain⟨⟨o,es,ep,t,ho,hex,hd,T,hM,hL,BD⟩,nd,is⟩:=S;have VX:es.toList.map (·.2)=dn.map (·.2):=by rw[BD,mz];rfl
 have lm':dn.length<=1000:=by
  have:=TS.cR nd (m:=ks) λk hk=>by rw[<- ek];exact(m1 k).mp hk
  rw[cE] at this;walk_at "s1"
 have VY:es.size=dn.length:=by have:=congrArg List.length BD;walk_at"aI"
 have VZ:∀ p∈dn,p.1∈ks:=λp hp=>by rw[<- ek];exact de.mpr ⟨p,m2 p hp,rfl⟩
 have mem:∀ gy:List Value,gy.Perm (dn.map (·.2))->∀ v∈gy,∃ k,RelV (kV k) v/\k∈ks:=λgy pv v hv=>by obtain⟨p,hp,rfl⟩:=de.mp (pv.mem_iff.mp hv);exact⟨p.1,hx p (m2 p hp),VZ p hp⟩
 have P1:s1.heap.objs.size<=h2.objs.size:=ky (da ho);refine zv.m8 (s:={ s1 with heap:=h2,toks:=tk }) (κ:=oneType') (R:=λgy=>gy.Perm (dn.map (·.2))) (r:=λv=>zI (ks.map λk=>[k]) (lA v)) (P:=λv=>∃ k,RelV (kV k) v/\oz k=b/\k∈ks) (λA' E' Q' hA hQ=>TS.nj (s:={ s1 with heap:=h2,toks:=tk }) (hA.trans EW) ho hex hd T.fits T.up T.sz hL (by rw[VY,sizeLine_eq];walk_at "s4") λh' BE d gy vv Ts pv=>hQ gy h' BE d (by rw[<- VX];exact pv) vv Ts) (λgy pv=>by rw[pv.length_eq,cE,sizeLine_eq];walk_at "s4") (λgy pv v hv=>?_) (λgy pv Tt A' E' s' vv Q' q'=>?_) (λs' vv=>CZ) λgy h' a' out n BE d pv pm pw vv ha eo=>?_
 ·obtain⟨k,rk,mk⟩:=mem gy pv v hv;exact⟨k,rk,hb k mk,mk⟩
 ·obtain⟨ms,rm⟩:=tX (ks:=ks) gy (mem gy pv);refine Bd (b:=b) rm (λk hk=>?_) Tt q';have:(gy.map lA)=ms.map λk=>[k]:=keys_map rm;have w8:[k]∈gy.map lA:=by rw[this];exact de.mpr ⟨k,hk,rfl⟩
  obtain⟨v,hv,e⟩:=de.mp w8;obtain⟨k',rk,mk⟩:=mem gy pv v hv;rw[mU rk] at e;cases e;exact hb _ mk
 ·have DZ:=pm.trans pv;obtain⟨ms,rm⟩:=tX (ks:=ks) out (mem _ DZ);have V0:(dn.map (·.2)).map lA=(dn.map (·.1)).map λk=>[k]:=by rw[mz,mz];exact D5 λp hp=>mU (hx p (m2 p hp))
  have pk:ms.Perm (dn.map (·.1)):=BW (by rw[<- keys_map rm,<- V0];exact DZ.map _);have hml:ms.length=dn.length:=by simpa using pk.length_eq
  have dK':∀ k∈ms,k∈ks:=λk hk=>by rw[<- ek];exact(m1 k).mp (pk.mem_iff.mp hk)
  refine⟨.ref a',_,(I1.laid (a:=a') (t':=BE) (λb o e=>vv b o (kp b o e)) (fP P1 ha) (show fh X.prog X.w _ h' _ (.lst (ms.map kV)) from⟨by rw[cE,sizeLine_eq];lia,out,n,rm,eo⟩)).drawn,rfl,
   q ms _ (pk.nodup_iff.mpr nd) (λk=>by rw[pk.mem_iff,m1,ek]) ?_ (I1.aS.fresh (fP P1 ha))⟩
  have pw2:(out.map lA).Pairwise λx y=>zI (ks.map λk=>[k]) x<=zI (ks.map λk=>[k]) y:=wa.mpr pw;rw[keys_map rm,wa] at pw2;refine pw2.imp_of_mem λ{x y} mx my hle=>?_;have mx:=dK' x mx;have my:=dK' y my;rw[<- zH,<- uw (L:=ks.map λk=>[k]) (by simp[ip,hb x mx,hb y my]) (de.mpr ⟨y,my,rfl⟩)];exact decide_eq_false (by lia)
end
end L2
namespace L2.Q
open PySem PySem.Spec PyProof.Rows
section
variable {X:Cx}{K:PySem.W.Frag}{e:Expr}{te:WE}{p p2 pos sQ:Pos}
theorem En:bootBuiltins "set" = some (.type "set"):=by decide +kernel
def ji:W1:=λ_ x Q=>match x with
 |.list xs=>∃ (ks:List (List Key)) (sh:List Bool),xs=ks.map sF/\ks.length<=1000/\(∀ k∈ks,ip k=true :: sh)/\∀ ms:List (List Key),ms.Nodup->(∀ k,k∈ms↔k∈ks)->(ms.Pairwise λa b=>gv b a=false)->Q (.ow true) (.list (ms.map sF))
 |_=>False
def jw:W1:=λ_ x Q=>match x with
 |.list xs=>∃ (ks:List Key) (b:Bool),xs=ks.map oD/\ks.length<=1000/\(∀ k∈ks,oz k=b)/\∀ ms:List Key,ms.Nodup->(∀ k,k∈ms↔k∈ks)->(ms.Pairwise λa b=>pz b a=false)->Q (.ow true) (.list (ms.map oD))
 |_=>False
theorem wA:Br1 K (jF K) ji:=by
 walk_at"s";walk_at"ad"
 cases r1 with
 |list z s q =>obtain⟨ks,sh,rfl,hz,hs,h⟩:=h;obtain⟨ta,ok⟩:=Cd q;have hl:=q.length;rw[cE] at hl;refine⟨_,ks,true,sh,s,by lia,ta,hs,λzs ms l tz nd mm pw VB=>?_⟩;have rr:=sG (K:=K) tz λk hk=>ok k ((mm k).mp hk);have:ms.length<=ks.length:=TS.cR nd λk hk=>(mm k).mp hk;exact f.lst w (by rw[cE,sizeLine_eq];lia) rr (jn ms) (h ms nd mm pw) l VB
 |_=>exact h.elim
theorem wj:Br1 K (jD K) jw:=by
 walk_at"s";walk_at"ad"
 cases r1 with
 |list z s q =>obtain⟨ks,b,rfl,hz,hb,h⟩:=h;obtain⟨e,ok⟩:=zJ q;subst e;refine⟨ks,b,s,hz,hb,λms l nd mm pw hl=>?_⟩;have:ms.length<=ks.length:=TS.cR nd λk hk=>(mm k).mp hk;exact f.lst w (by rw[cE,sizeLine_eq];lia) (qX λk hk=>ok k ((mm k).mp hk)) (nO ms) (h ms nd mm pw) l hl
 |_=>exact h.elim
theorem zc (hu:X.A.units+64<cLine) (hg:Gl X "sorted") (hm:X.mg "sorted" = none) (Fu:Gl X "set") (qq:X.mg "set" = none) (he:QE X K e te) (hc:X.calm=true:=by rfl) (hK:X.K=K:=by rfl) (sf:starEach [e] X.env=(false,eval e X.env) :: starEach [] X.env:=by rfl) (hs:starEach [.Call (.Name "set" p2) [e] [] sQ] X.env=(false,eval (.Call (.Name "set" p2) [e] [] sQ) X.env) :: starEach [] X.env:=by rfl) :
  QE X K (.Call (.Name "sorted" p) [.Call (.Name "set" p2) [e] [] sQ] [] pos) (dr ji te):=by
 subst hK;refine PE.imp (vL hc hu hg hm Fu qq he mY En sf hs) λσ H Qv ck=>?_;obtain⟨Hs,ρ,ag,Q,sr,h,fin⟩:=ck;exact⟨Hs,ρ,ag,_,sr,h,λv H1 ay m x As g1 r1 f1 q1=>wA ay H1 m x v As Q Qv g1.wf r1 q1 (Fin.after fin g1)⟩
theorem zj (hg:Gl X "sorted") (hm:X.mg "sorted" = none) (Fu:Gl X "set") (qq:X.mg "set" = none) (he:QE X K e te) (hc:X.calm=true:=by rfl) (hK:X.K=K:=by rfl) (sf:starEach [e] X.env=(false,eval e X.env) :: starEach [] X.env:=by rfl) (hs:starEach [.Call (.Name "set" p2) [e] [] sQ] X.env=(false,eval (.Call (.Name "set" p2) [e] [] sQ) X.env) :: starEach [] X.env:=by rfl) :
  QE X K (.Call (.Name "sorted" p) [.Call (.Name "set" p2) [e] [] sQ] [] pos) (dr jw te):=by
 subst hK;refine PE.imp (wL hc hg hm Fu qq he mY En sf hs) λσ H Qv ck=>?_;obtain⟨Hs,ρ,ag,Q,sr,h,fin⟩:=ck;exact⟨Hs,ρ,ag,_,sr,h,λv H1 ay m x As g1 r1 f1 q1=>wj ay H1 m x v As Q Qv g1.wf r1 q1 (Fin.after fin g1)⟩
end
end L2.Q
namespace L2.Q.R
open PySem PySem.Spec PyProof.Rows L2.Q
section
variable {Q:Md->L2.Q.D->Prop}{m:Md}{xs:List L2.Q.D}
theorem Ib:ji m (.list xs) Q = ∃ (ks:List (List Key)) (sh:List Bool),xs=ks.map sF/\ks.length<=1000/\(∀ k∈ks,ip k=true :: sh)/\∀ ms:List (List Key),ms.Nodup->(∀ k,k∈ms↔k∈ks)->(ms.Pairwise λa b=>gv b a=false)->Q (.ow true) (.list (ms.map sF)):=rfl
theorem Ia:jw m (.list xs) Q = ∃ (ks:List Key) (b:Bool),xs=ks.map oD/\ks.length<=1000/\(∀ k∈ks,oz k=b)/\∀ ms:List Key,ms.Nodup->(∀ k,k∈ms↔k∈ks)->(ms.Pairwise λa b=>pz b a=false)->Q (.ow true) (.list (ms.map oD)):=rfl
end
end L2.Q.R
namespace L2
open PySem PySem.Spec PyProof.Rows
end L2
namespace L2.Q
open PySem PySem.Spec PyProof.Rows
end L2.Q
namespace L2.Q.R
open PySem PySem.Spec PyProof.Rows L2.Q
end L2.Q.R
namespace L2.Q
open PySem PySem.Spec PyProof.Rows PySem.W
abbrev dM':List Value:=[.type "ValueError",.type "Exception",.type "BaseException",.type "object"]
structure mn(K:PySem.W.Frag)(C:Addr):Prop where
 ex:excIn K C dM' "ValueError.__new__" = true
 gx:findIn K (.ref C) "__getattr__" = some none
 ga:findIn K (.ref C) "__getattribute__" = some (some (.builtin "BaseException.__getattribute__"))
 cl:findIn K (.ref C) "__class__" = some (some (.builtin "object.__class__"))
 ob:mroIn K C (.type "object")=some true
theorem mn.obj{K:PySem.W.Frag}{C:Addr}{h:Heap}(x:mn K C)(X:K.In h):∃ bm N nm q bs hdct sn sub ab col dd k0 k1 k2 k3 k5 mN,
  h.get? C=some (excClassObj nm q C N bs bm hdct sn sub ab col dd k0 k1 k2 k3 k5 "ValueError.__new__")/\h.Ns N mN/\mN "__init__" = none/\OwnTail h dM' bm:=by
 have q:=x.ex;unfold excIn at q;split at q
 ·rename_i dd cd sl ho;split at q
  ·rename_i C' bm k0 k1 k2 k3 n k5 hm hs;simp only[i7,beq_iff_eq,Ui] at q;obtain⟨⟨⟨⟨⟨e1,e2⟩,dN'⟩,ht⟩,aS⟩,BG⟩:=q;cases e1;cases e2;cases cd;dsimp only at hm dN' aS BG;cases hm;cases dN';have To:sl = #[k0,k1,k2,k3,some (.builtin "ValueError.__new__"),k5]:=by cases sl;dsimp only at hs;rw[hs]
   cases To;exact⟨bm,_,_,_,_,_,_,_,_,_,dd,k0,k1,k2,k3,k5,_,X _ _ ho,.of_isNs (isNs_of_in X aS),nsMap_none_of_in X aS BG,tail_of_in X ht⟩
  ·cases q
 ·cases q
section
variable {prog:Program}{w:World}{A:Around}{E:Value->Shared->Prop}{h:Heap}{g:Array GenState}{d:Drawn}{t:Nat}{os:OsState}{a C:Addr}{o:Obj}{K:PySem.W.Frag}
theorem Ea{R:Result->Shared->Prop}(x:mn K C)(X:K.In h)(hx:h.get? a=some o)(hc:o.cls=.ref C)(hq:R (.ok (.ret (.ref C))) ⟨h,g,d,t,os⟩) :
  codeAny (model prog w) A (.call (.builtin "getset_descriptor.__get__") ⟨[.builtin "object.__class__",.ref a,.ref C],[]⟩) R ⟨h,g,d,t,os⟩:=by
 walk_at"ao";walk_at"M";have P4:(Value.ref C :: bm).contains (.type (".".intercalate ("object.__class__".cutAt '.').dropLast))=true:=by rw[F.owner_object_class,Ud,T.hasType (X := "object") (b:=true) rfl];rfl
 refine codeAny_call_builtin F.slot_gs_get.plain F.entry_gs_get (F.slot_gs_get.check _ _ _ _ _ _ _ _ hT5 (F.args_gs_get _ _ _) ?_);repeat (any_goals (first|assumption|(with_reducible refine wpAny_loadPart_at hx ?_;rw[hc])|(with_reducible refine wpAny_isSubtype_exc hC ?_;rw[P4])|wp_step))
 refine⟨Code.quiet_builtin _ (by decide +kernel),codeAny_builtin F.entry_object_class ?_⟩;repeat (any_goals (first|assumption|(with_reducible refine wpAny_loadPart_at hx ?_;rw[hc])|wp_step))
theorem y_{tk:Tok}{Q:PySem.Fin->Shared->Prop}(x:mn K C)(X:K.In h)(hx:h.get? a=some o)(hc:o.cls=.ref C)(hq:Q (.done (.ret (.ref C))) ⟨h,g,d,t,os⟩) :
  wpAny (model prog w) A (Builtin.«object.__getattribute__» ⟨[.ref a,.str "__class__" tk],[]⟩) Q E ⟨h,g,d,t,os⟩:=by
 walk_at"M";have f5:=F.typeOf_object_class;have f6:=F.slot_gs_get.lookup;have f7:=F.slot_gs_set.lookup;have Lk:=looks_findIn (M:=model prog w) X x.cl;repeat (any_goals (first|assumption|(with_reducible refine wpAny_loadPart_at hx ?_;rw[hc])|with_reducible refine Lk.at ?_|wp_step))
 refine Ea x X hx hc ?_;repeat (any_goals (first|assumption|wp_step))
theorem Gj{tk:Tok}{Q:Value->Shared->Prop}(x:mn K C)(X:K.In h)(hx:h.get? a=some o)(hc:o.cls=.ref C)(hq:Q (.ref C) ⟨h,g,d,t,os⟩) :
  wpAny (model prog w) A (getAttrBy (.ref a) (.str "__class__" tk) false) Q E ⟨h,g,d,t,os⟩:=by
 have f3:=F.attr_ValueError.ga.bind (.ref a);have Tw:(Value.builtin "BaseException.__getattribute__" == Value.builtin "object.__getattribute__")=false:=by decide +kernel
 have hx1:(onTheHeap (Value.ref C) && Value.builtin "BaseException.__getattribute__" == Value.builtin "object.__getattribute__")=false:=by rw[Tw];rfl
 have Lk:=looks_findIn (M:=model prog w) X x.ga;have Lg:=looks_findIn (M:=model prog w) X x.gx;repeat (any_goals (first|assumption|(with_reducible refine wpAny_loadPart_at hx ?_;rw[hc])|with_reducible refine Lk.at ?_|with_reducible refine Lg.at ?_|wp_step))
 walk_at"ao";have hk:builtinKind "BaseException.__getattribute__" = some .slot:=by decide +kernel
 have hsplit:splitId "BaseException.__getattribute__" = some ("BaseException", "__getattribute__"):=by decide +kernel
 have P4:(Value.ref C :: bm).contains (.type "BaseException")=true:=by rw[Ud,T.hasType (X := "BaseException") (b:=true) rfl];rfl
 have chk:∀ {Q':Unit->Shared->Prop} {E':Value->Shared->Prop} {A':Around},Q' () ⟨h,g,d,t,os⟩->wpAny (model prog w) A' (checkBuiltinCall "BaseException.__getattribute__" ⟨[.ref a,.str "__class__" tk],[]⟩) Q' E' ⟨h,g,d,t,os⟩:=λ{Q' E' A'} hq'=>by
  have ha:=F.args_bexc_ga (.ref a) (.str "__class__" tk);simp only[checkBuiltinCall,hk,hsplit];refine ai ?_;unfold isInstance;repeat (first|(with_reducible refine wpAny_loadPart_at hx ?_;rw[hc])|(with_reducible refine wpAny_isSubtype_exc hC ?_;rw[P4])|wp_step)
  exact hq'
 refine codeAny_call_builtin F.attr_ValueError.ga.plain F.entry_bexc_ga (chk (y_ x X hx hc ?_));repeat (any_goals (first|assumption|wp_step))
theorem zX {Q:Option Value->Shared->Prop} (x:mn K C) (X:K.In h) (hx:h.get? a=some o) (hc:o.cls=.ref C) (hq:Q (some (.ref C)) ⟨h,g,d,t+1,os⟩):wpAny (model prog w) A (getAttr? (.ref a) "__class__") Q E ⟨h,g,d,t,os⟩:=by unfold getAttr? getAttrBy?;repeat (any_goals (first|assumption|with_reducible apply Gj x X hx hc|wp_step))
end
def TrC(h B:Heap)(e:Addr)(cls a0 fl:Value):Prop :=
 ∃ oe vs T oT ts,h.get? e=some oe/\(oe.cls=cls/\vs[0]? = some a0/\vs[2]? = some .none)/\oe.data=.fields vs/\vs[1]? = some (.ref T)/\B.get? T=none/\T≠e/\h.get? T=some oT/\oT.data=.fields ts/\ts[3]? = some fl
def yA(B:Heap)(l:List PySem.Env)(e:Addr)(cls a0 fl:Value)(h:Heap):Prop:=B.StaysIn h/\B.get? e=none/\h.FunFrames B l/\TrC h B e cls a0 fl
abbrev FC(B:Heap)(l:List PySem.Env)(e:Addr)(cls a0:Value)(h:Heap):Prop:=yA B l e cls a0 .none h
theorem yA.there{B h:Heap}{l:List PySem.Env}{e:Addr}{cls a0 fl:Value}(x:yA B l e cls a0 fl h):∃ ob,h.get? e=some ob/\ob.cls=cls:=by obtain⟨_,_,_,oe,_,_,_,_,he,hc,_⟩:=x;exact⟨oe,he,hc.1⟩
theorem yA.first{B h:Heap}{l:List PySem.Env}{e:Addr}{cls a0 fl:Value}(x:yA B l e cls a0 fl h):∃ oe vs,h.get? e=some oe/\oe.cls=cls/\oe.data=.fields vs/\vs[2]? = some .none:=by obtain⟨_,_,_,oe,vs,_,_,_,he,hc,hd,_⟩:=x;exact⟨oe,vs,he,hc.1,hd,hc.2.2⟩
section
variable {M:Model}{A:Around}{E:Value->Shared->Prop}{s:Shared}{base:Heap}{env:PySem.Env}{outer:List PySem.Env}{L e:Addr}{cls a0 fl:Value}{Q:Unit->Shared->Prop}
theorem Eo{h2:Heap}{oe:Obj}{vs:Array Value}{hd1:Value}{b:Bool}(oI:A.frames=some (env :: outer))(hf:env.frame=some L)(k1:base.StaysIn h2)(k2:base.get? e=none)(k3:h2.FunFrames base (env :: outer))(ge:h2.get? e=some oe)(gd:oe.data=.fields vs)(gz:1<vs.size)(g0:oe.cls=cls/\vs[0]? = some a0/\vs[2]? = some .none)(hQ:∀ h',yA base (env :: outer) e cls a0 (rawInt L) h'->h2.UpToSlots h'->Q () { s with heap:=h' }) :
  wpAny M A (do let a <- PySem.frameOf env;let pl <- entryPlaceOf L b;let t <- EntryCells.newEntry hd1 a .none (rawInt L) .none pl;setField (.ref e) 1 t) Q E { s with heap:=h2 }:=by
 have ne:e∉dz (env :: outer):=λz=>by obtain⟨_,o,q,n⟩:=k3.mem z;rw[ge] at q;cases q;exact n _ gd
 refine ai (wpAny_frameOf_fun oI k3 hf λh3 q3=>ai (wpAny_entryPlaceOf λpl hp=>?_));unfold EntryCells.newEntry newFields;refine ai (wpAny_newObj_type ?_ (hp.sizeOk5 _ _ _ _ _));generalize AA:({ cls:=.type "traceback",dict:=none,data:=.fields ([hd1,.ref L,.none,rawInt L,.none]++(if pl.isEmpty then List.replicate 6 Value.none else pl)).toArray }:Obj)=ob;have ge3:h3.get? e=some oe:=(q3.2.1 e ne).trans ge;have IY:base.StaysIn h3:=λb o q=>(q3.2.1 b λz=>by rw[(k3.mem z).1] at q;cases q).trans (k1 b o q);have ge4:=dA (h:=h3) ob ge3;refine wpAny_setField ge4 gd gz (hQ _ ?_ ?_);all_goals
  have nT:h3.objs.size≠e:=Rw (da ge3);have kp:∀ b o,b≠e->h3.get? b=some o->((h3.push ob).update e (Obj.mapFields (·.setIfInBounds 1 (Value.ref h3.objs.size)))).get? b=some o:=λb o q1 q2=>by rw[xA _ _ (Ne.symm q1)];exact dA _ q2
  have nr:∀ b o,h2.get? b=some o->(∀ us,o.data≠.fields us)->b≠e:=λb o q1 q2 q=>by rw[q,ge] at q1;cases q1;exact q2 _ gd
  have up:∀ b o,h2.get? b=some o->(∀ us,o.data≠.fields us)->∃ sl,((h3.push ob).update e (Obj.mapFields (·.setIfInBounds 1 (Value.ref h3.objs.size)))).get? b=some { o with slots:=sl }:=λb o q1 q2=>by obtain⟨sl,q⟩:=q3.2.2 b o q1;exact⟨sl,kp b _ (nr b o q1 q2) q⟩
 ·refine⟨λb o q=>kp b o (λz=>by rw[z,k2] at q;cases q) (IY b o q),k2,k3.of_keeps λb o q1 q2=>?_,?_⟩
  ·obtain⟨sl,q⟩:=up b o q1 q2;exact⟨_,q,rfl⟩
  ·have dd:=Obj.data_mapFields gd (·.setIfInBounds 1 (Value.ref h3.objs.size));have gT:(h3.push ob).get? h3.objs.size=some ob:=gV h3 (by rw[<- AA];rfl);refine⟨_,_,h3.objs.size,ob,_,xB _ ge4 (Obj.isFreed_of_fields dd),⟨(Obj.cls_mapFields _ _).trans g0.1,?_,?_⟩,dd,by simp[gz],IY.fresh,nT,(xA _ _ (Ne.symm nT)).trans gT,by rw[<- AA],?_⟩
   ·rw[Uj (by decide)];exact g0.2.1
   ·rw[Uj (by decide)];exact g0.2.2
   ·first
    | (simp;done)
    | (rcases hp with rfl|⟨_,_,_,_,_,_,_,rfl⟩<;>simp)
 ·exact up
theorem FQ(oI:A.frames=some (env :: outer))(hf:env.frame=some L)(x:yA base (env :: outer) e cls a0 fl s.heap)(hQ:∀ h',yA base (env :: outer) e cls a0 (rawInt L) h'->s.heap.UpToSlots h'->Q () { s with heap:=h' }):wpAny M A (noteFrame (.ref e) env) Q E s:=by
 obtain⟨k1,k2,k3,oe,vs,T,oT,ts,ge,gc,gd,g1,gn,ne,gT,gD,g3⟩:=id x;unfold noteFrame;simp only[hf];refine ai (wpAny_field ge gd g1 ?_);rw[if_pos (by simp)];refine ai (wpAny_field gT gD g3 ?_);by_cases z:fl=rawInt L
 ·walk_at"h";exact aE (hQ _ (z ▸ x) (Heap.UpToSlots.refl _))
 walk_at"i";refine ai (wpAny_setField gT gD (y3.mp g3).1 ?_);have ot:∀ b,b≠T->(s.heap.update T (Obj.mapFields (·.setIfInBounds 3 Value.none))).get? b=s.heap.get? b:=λb hb=>xA _ _ (Ne.symm hb);have nr:∀ b o,s.heap.get? b=some o->(∀ us,o.data≠.fields us)->b≠T:=λb o hb hn q=>by rw[q,gT] at hb;cases hb;exact hn _ gD
 refine Eo oI hf (λb o hb=>(ot b λq=>by rw[q,gn] at hb;cases hb).trans (k1 b o hb)) k2 (k3.of_keeps λb o hb hn=>⟨o,(ot b (nr b o hb hn)).trans hb,rfl⟩) ((ot e (Ne.symm ne)).trans ge) gd (y3.mp g1).1 gc λh' q up=>?_;exact hQ h' q λb o hb hn=>up b o ((ot b (nr b o hb hn)).trans hb) hn
theorem tE{l:List PySem.Env}{fr:Option Addr}(x:yA base l e cls a0 fl s.heap)(hQ:∀ h',yA base l e cls a0 (fr.elim .none λf=>rawInt f) h'->s.heap.UpToSlots h'->Q () { s with heap:=h' }):wpAny M A (setFlight (.ref e) fr) Q E s:=by
 obtain⟨k1,k2,k3,oe,vs,T,oT,ts,ge,gc,gd,g1,gn,ne,gT,gD,g3⟩:=x;have gz:=(y3.mp g3).1;unfold setFlight;refine ai (wpAny_field ge gd g1 ?_);rw[if_pos (by simp)];have ot:∀ b,b≠T->(s.heap.update T (Obj.mapFields (·.setIfInBounds 3 (fr.elim Value.none λf=>rawInt f)))).get? b=s.heap.get? b:=λb hb=>xA _ _ (Ne.symm hb);have nr:∀ b o,s.heap.get? b=some o->(∀ us,o.data≠.fields us)->b≠T:=λb o hb hn q=>by rw[q,gT] at hb;cases hb;exact hn _ gD
 refine wpAny_setField gT gD gz (hQ _ ⟨λb o hb=>(ot b λq=>by rw[q,gn] at hb;cases hb).trans (k1 b o hb),k2,k3.of_keeps λb o hb hn=>⟨o,(ot b (nr b o hb hn)).trans hb,rfl⟩,oe,vs,T,_,_,(ot e (Ne.symm ne)).trans ge,gc,gd,g1,gn,ne,xB _ gT (Obj.isFreed_of_fields (Obj.data_mapFields gD _)),Obj.data_mapFields gD _,by simp[gz]⟩ λb o hb hn=>⟨o.slots,(ot b (nr b o hb hn)).trans hb⟩)
theorem Eu(oI:A.frames=some (env :: outer))(hf:env.frame=some L)(x:yA base (env :: outer) e cls a0 fl s.heap)(hQ:∀ h',FC base outer e cls a0 h'->s.heap.UpToSlots h'->Q () { s with heap:=h' }):wpAny M A (leaving env (.ref e)) Q E s:=by
 unfold leaving;exact ai (FQ oI hf x λh1 x1 u1=>tE x1 λh2 x2 u2=>hQ h2 ⟨x2.1,x2.2.1,x2.2.2.1.2.2,x2.2.2.2⟩ (u1.trans u2))
theorem zP{h:Heap}{args:List Value}(oI:A.frames=some (env :: outer))(hf:env.frame=some L)(k:base.StaysIn h)(k3:h.FunFrames base (env :: outer))(hx:Heap.MadeExcOf h s.heap e cls args)(hQ:∀ h' t,FC base outer e cls (.ref t) h'->s.heap.UpToSlots h'->Q () { s with heap:=h' }):wpAny M A (leaving env (.ref e)) Q E s:=by
 obtain⟨t,ge,gt,ht⟩:=hx.there;have fresh:base.get? e=none:=by
  cases q:base.get? e with
  |none=>rfl
  |some o=>have:=k e o q;rw[hx.new] at this;cases this
 unfold leaving noteFrame;simp only[hf];refine ai (ai (wpAny_field (x:=.none) ge rfl rfl ?_));rw[if_neg (by decide)];refine Eo (s:=s) oI hf (λb o q=>hx.keeps b o (k b o q)) fresh (k3.of_keeps λb o q _=>⟨o,hx.keeps b o q,rfl⟩) ge rfl (by simp) ⟨rfl,rfl,rfl⟩ λh1 x1 u1=>tE x1 λh2 x2 u2=>hQ h2 t ⟨x2.1,x2.2.1,x2.2.2.1.2.2,x2.2.2.2⟩ (u1.trans u2)
end
def XAt(a C:Addr)(h:Heap):Prop:=∃ o,h.get? a=some o/\o.cls=.ref C
theorem mn.ls'{K:PySem.W.Frag}{C:Addr}{h:Heap}{M:Model}(x:mn K C)(X:K.In h):Looks M h (isType (.ref C)) true:=by obtain⟨bm,N,nm,q,bs,hdct,sn,sub,ab,col,dd,k0,k1,k2,k3,k5,mN,hC,hN,BG,T⟩:=x.obj X;intro A' Q' E' s' k q;unfold isType loadHead;exact ai (wpAny_loadPart (k _ _ hC) (aE q))
theorem Eh{K:PySem.W.Frag}{a C:Addr}(x:mn K C):KitX K (.ref a) (.ref C) (XAt a C) where
 ty:=λM h X p=>by obtain⟨o,h1,h2⟩:=p;exact h2 ▸ (Looks.ld h1).andThen .now
 it:=λM h X p=>x.ls' X
 ne:=λh tp dd its n sl X htp=>by obtain⟨bm,N,nm,q,bs,hdct,sn,sub,ab,col,dd,k0,k1,k2,k3,k5,mN,hC,hN,BG,T⟩:=x.obj X;refine Bool.eq_false_iff.mpr λq=>?_;have e:C=tp:=Value.ref.inj (beq_iff_eq.mp q);subst e;have z:=congrArg (λo=>o.map (·.data)) (hC.symm.trans htp);cases z
 ca:=λ{prog w A E Q s} X p k=>by obtain⟨h,g,d,t,os⟩:=s;obtain⟨o,h1,h2⟩:=p;exact zX x X h1 h2 k
theorem wQ{M:Model}{A:Around}{E:Value->Shared->Prop}{K:PySem.W.Frag}{a C R:Addr}{h:Heap}{g:Array GenState}{d:Drawn}{t:Nat}{os:OsState}{Q:Bool->Shared->Prop}(x:mn K C)(r:mn K R)(sub:mroIn K C (.ref R)=some true)(X:K.In h)(p:XAt a C h)(hq:Q true ⟨h,g,d,t,os⟩):wpAny M A (excMatches (.ref a) (.ref R)) Q E ⟨h,g,d,t,os⟩:=by
 obtain⟨bm,N,nm,q,bs,hdct,sn,oU',ab,col,dd,k0,k1,k2,k3,k5,mN,hC,hN,BG,T⟩:=r.obj X;obtain⟨oe,he,Uu⟩:=p;have P4:(Value.ref R :: bm).contains (.type "BaseException")=true:=by rw[Ud,T.hasType (X := "BaseException") (b:=true) rfl];rfl
 have f:=tc_notTuple;have Lk:=looks_mroIn (M:=M) X sub;unfold excMatches;repeat (first|(with_reducible refine wpAny_loadPart_at he ?_;rw[Uu])|with_reducible refine wpAny_loadPart_at hC ?_|(with_reducible refine wpAny_isSubtype_exc hC ?_;rw[P4])|with_reducible refine Lk.at ?_|wp_step)
 exact hq
theorem FunFrames.rebase{h base B:Heap}:∀ {l:List PySem.Env},h.FunFrames base l->(∀ b∈dz l,B.get? b=none)->h.FunFrames B l
 |[],_,_=>trivial
 |env :: rest,⟨hk,⟨L,o,hf,hn,ho,hd⟩,hr⟩,hB=>⟨hk,⟨L,o,hf,hB L (by unfold dz;rw[vS,hf];exact dv),ho,hd⟩,
   FunFrames.rebase hr λb hb=>hB b (by unfold dz;rw[vS,hf];exact cK _ hb)⟩
theorem fh.there{P:Program}{w:World}{H:Hp}{h:Heap}{a:Addr}{o:HO}(x:fh P w H h a o):∃ u,h.get? a=some u:=by
 cases o with
 |lst xs=>obtain⟨_,_,_,_,e⟩:=x;exact⟨_,e⟩
 |tup xs=>obtain⟨_,_,_,_,e,_⟩:=x;exact⟨_,e⟩
 |dK ae=>obtain⟨_,_,_,_,o,_,_,e,_⟩:=x;exact⟨_,e⟩
 |dT ae=>obtain⟨_,_,_,_,o,_,_,e,_⟩:=x;exact⟨_,e⟩
 |set S n=>obtain⟨o,_,_,_,e,_⟩:=x;exact⟨_,e⟩
 |ins C dx fs=>obtain⟨_,_,_,e,_⟩:=x;exact⟨_,e⟩
 |own y=>exact x
 |xd fs=>obtain⟨_,⟨_,_,_,e,_⟩,_⟩:=x;exact⟨_,e⟩
 |RN lo hi=>obtain⟨_,_,_,e⟩:=x;exact⟨_,e⟩
 |mB ob u=>obtain⟨e,_⟩:=x;exact⟨_,e⟩
 |B8 ps=>exact⟨_,(show h.get? a=some _ from x)⟩
 |met f y=>exact⟨_,(show h.get? a=some _ from x)⟩
 |ext φ=>obtain⟨_,e,_⟩:=x;exact e
def xh(B:Heap)(fs:List Addr)(H':Hp)(h₀ h:Heap):Prop:=∀ b o,h.get? b=some o->(H' b≠none\/h₀.get? b≠none)->b∉fs->B.get? b=some o
def fT(P:Program)(w:World)(mg:Str->Option Value)(rn:List Str):x3:=λouter H s E e s' =>
 ∃ a n C a0 H' B,e=.ref a/\(n∈rn/\mg n=some (.ref C))/\s'.os=s.os/\AllBare s'.gens/\Un (dz outer) [] H H' s.heap s'.heap/\fE P w H' s'.heap /\
  FC B outer a (.ref C) a0 s'.heap/\xh B (dz outer) H' s.heap s'.heap/\(∀ b∈dz outer,H' b=none)/\E (.ref C) none H'
structure fK(fs:List Addr)(H':Hp)(h₀ h h':Heap):Prop where
 keep:∀ b o,h.get? b=some o->(H' b≠none\/h₀.get? b≠none)->b∉fs->h'.get? b=some o
 slot:∀ b o,h.get? b=some o->b∈fs->∃ sl,h'.get? b=some { o with slots:=sl }
theorem fK.of{B:Heap}{l:List PySem.Env}{base:Heap}{H':Hp}{h₀ h h':Heap}(c:xh B (dz l) H' h₀ h)(st:B.StaysIn h')(up:h.UpToSlots h')(ff:h.FunFrames base l):fK (dz l) H' h₀ h h' :=
 ⟨λb o e k n=>st b o (c b o e k n),λb o e m=>by
  obtain⟨_,o',e',d⟩:=ff.mem m;rw[e] at e';cases e';exact up b o e d⟩
theorem fK.trans{fs:List Addr}{H':Hp}{h₀ h h1 h2:Heap}(a:fK fs H' h₀ h h1)(b:fK fs H' h₀ h1 h2):fK fs H' h₀ h h2 :=
 ⟨λx o e k n=>b.keep x o (a.keep x o e k n) k n,λx o e m=>by
  obtain⟨_,e1⟩:=a.slot x o e m;obtain⟨sl,e2⟩:=b.slot x _ e1 m;exact⟨sl,e2⟩⟩
theorem fK.un{fs:List Addr}{H H':Hp}{h₀ h h':Heap}(m:fK fs H' h₀ h h')(u:Un fs [] H H' h₀ h):Un fs [] H H' h₀ h' where
 keep:=λb o e n nb nx=>m.keep b o (u.keep b o e n nb nx) (.inr (by rw[e];exact λz=>nomatch z)) nb
 slot:=λb o e n hb nx=>by obtain⟨_,e1⟩:=u.slot b o e n hb nx;obtain⟨sl,e2⟩:=m.slot b _ e1 hb;exact⟨sl,e2⟩
 free:=u.free
 there:=λb o e nx=>by
  obtain⟨o',e1⟩:=u.there b o e nx;by_cases hb:b∈fs
  ·obtain⟨sl,e2⟩:=m.slot b o' e1 hb;exact⟨_,e2⟩
  ·exact⟨o',m.keep b o' e1 (.inr (by rw[e];exact λz=>nomatch z)) hb⟩
 iN:=u.iN
 oQ:=u.oQ
 qc:=u.qc
theorem fK.aS{P:Program}{w:World}{fs:List Addr}{H':Hp}{h₀ h h':Heap}(m:fK fs H' h₀ h h')(f:∀ b∈fs,H' b=none)(x:fE P w H' h):fE P w H' h':=λa o e =>
 (x a o e).fA (λb u hb q=>by
  have hH:H' b≠none:=by
   rcases hb with z|z
   ·rw[z,e];exact λz=>nomatch z
   ·rw[z];exact λz=>nomatch z
  exact m.keep b u q (.inl hH) λz=>hH (f b z)) (λ_ q=>q) λ_ _ q=>q
section
variable {X:Cx}{pins:List (Addr × Obj)}{σ:St}{H H':Hp}{s:Shared}{e:Value}
theorem xh.up{B h h':Heap}(hV:X.stack=X.env :: X.outer)(hf:X.env.frame=some X.env.locals)(hex:X.ex=[])(I:Inv X pins σ H s)(un:Un (dz X.stack) [] H H' s.heap h)(c:xh B (dz X.stack) H' s.heap h)(m:fK (dz X.stack) H' s.heap h h')(fr:∀ b∈dz X.stack,H' b=none)(aS:fE X.prog X.w H' h) :
  Un X.fs [] X.qf H' X.df.heap h'/\xh B X.fs H' X.df.heap h':=by
 have hs:∀ b,b∈dz X.stack↔b=X.env.locals\/b∈X.fs:=λb=>by rw[hV];unfold dz;rw[vS,hf];exact dc
 have LV:∀ b o,X.df.heap.get? b=some o->b≠X.env.locals:=λb o e=>eL (lP (da e) I.ok.above);have IZ:∀ b:Addr,b∉X.ex:=λb z=>by rw[hex] at z;exact nomatch z
 have m':=m.un un;have th:∀ b o,X.df.heap.get? b=some o->∃ o',s.heap.get? b=some o':=λb o e=>I.base.there b o e (IZ b);refine⟨⟨λb o e n nb nx=>?_,λb o e n hb nx=>?_,λb o e n nx=>?_,λb o e nx=>?_,λb xs e=>un.iN b xs (I.base.iN b xs e),λb ob u e=>un.oQ b ob u (I.base.oQ b ob u e),λb ps e=>?_⟩,λb o e k nb=>?_⟩
 ·exact m'.keep b o (I.base.keep b o e n nb (IZ b)) (I.base.free b o e n (IZ b)) (λz=>((hs b).mp z).elim (LV b o e) nb) (by simp)
 ·obtain⟨_,e1⟩:=I.base.slot b o e n hb (IZ b);obtain⟨sl,e2⟩:=m'.slot b _ e1 (I.base.free b o e n (IZ b)) ((hs b).mpr (.inr hb)) (by simp);exact⟨sl,e2⟩
 ·obtain⟨o',e1⟩:=th b o e;exact un.free b o' e1 (I.base.free b o e n (IZ b)) (by simp)
 ·obtain⟨o',e1⟩:=th b o e;exact m'.there b o' e1 (by simp)
 ·obtain⟨m1,e1⟩:=I.base.qc b ps e;obtain⟨m2,e2⟩:=un.qc b _ e1;exact⟨m1++m2,by rw[e2,GN]⟩
 ·have key:∀ o',h.get? b=some o'->(H' b≠none\/s.heap.get? b≠none)->b∉dz X.stack->B.get? b=some o:=λo' e' k' n'=>by have:=m.keep b o' e' k' n';rw[e] at this;cases this;exact c b o e' k' n'
  rcases k with k|k
  ·have nf:b∉dz X.stack:=λz=>k (fr b z)
   cases q:H' b with
   |none=>exact absurd q k
   |some u =>obtain⟨o',e'⟩:=fh.there (aS b u q);exact key o' e' (.inl k) nf
  ·cases q:X.df.heap.get? b with
   |none=>exact absurd q k
   |some o0 =>obtain⟨o1,e1⟩:=th b o0 q;obtain⟨o2,e2⟩:=un.there b o1 e1 (by simp);exact key o2 e2 (.inr (by rw[e1];exact λz=>nomatch z)) λz=>((hs b).mp z).elim (LV b o0 q) nb
end
section
variable {P:Program}{w:World}{K:PySem.W.Frag}{mg:Str->Option Value}{base:Heap}{N:List Str}{qual:Str}{scope:Scope}{f:Addr}{cd:Value}{A:Around}{outer:List PySem.Env}{df:Shared}{qf:Hp}{E:XK}{rn:List Str}
theorem BR{env:PySem.Env}{L b:Addr}{l:List PySem.Env}(hf:env.frame=some L)(h:b∈dz l):b∈dz (env :: l):=by unfold dz;rw[vS,hf];exact cK _ h
theorem uC:Passes (fT P w mg rn) (kD (fT P w mg rn) P w K mg base N qual scope f cd A outer df qf E) E:=by intro pins σ H s e s' I hx;obtain⟨a,n,C,a0,H',B,he,hn,os,bare,un,aS,vw,cov,fr,hE⟩:=hx;subst he;refine Eu I.ok.frames rfl vw λh' dU' up=>?_;have mv:=fK.of cov dU'.1 up vw.2.2.1;obtain⟨u1,c1⟩:=xh.up (X:=kD (fT P w mg rn) P w K mg base N qual scope f cd A outer df qf E) rfl rfl rfl I un cov mv fr aS;exact⟨a,n,C,a0,H',B,rfl,hn,os.trans I.os,bare,u1,mv.aS fr aS,dU',c1,λb hb=>fr b (BR rfl hb),hE⟩
def vM(X:Cx)(rn:List Str)(E:XK):Prop:=∀ (pins:List (Addr × Obj)) (σ:St) (H:Hp) (s:Shared) (h':Heap) (e:Addr) (n:Str) (C:Addr) (vs:List Value),Inv X pins σ H s->Heap.MadeExcOf s.heap h' e (.ref C) vs ->
 n∈rn->X.mg n=some (.ref C)->E (.ref C) none H->X.xe (.ref e) { s with heap:=h' }
theorem gH:vM (kD (fT P w mg rn) P w K mg base N qual scope f cd A outer df qf E) rn E:=by
 intro pins σ H s h' e n C vs I hx hn hm hE;have st:=I.stack;have ff:s.heap.FunFrames (hideAll s.heap (dz (envOfC qual scope df.heap.objs.size f cd :: outer))) (envOfC qual scope df.heap.objs.size f cd :: outer):=FunFrames.rebase st λb hb=>hideAll_none _ hb;refine zP (h:=s.heap) I.ok.frames rfl (λb o q=>of_hideAll _ q) ff hx λV1 t vw up=>?_;have ff':h'.FunFrames (hideAll s.heap (dz (envOfC qual scope df.heap.objs.size f cd :: outer))) (envOfC qual scope df.heap.objs.size f cd :: outer):=ff.of_keeps λb o q _=>⟨o,hx.keeps b o q,rfl⟩
 have aS:fE P w H h':=I.aS.kept hx.keeps;have fr:∀ b∈dz (envOfC qual scope df.heap.objs.size f cd :: outer),H b=none:=I.Us;have cov:xh (hideAll s.heap (dz (envOfC qual scope df.heap.objs.size f cd :: outer))) (dz (envOfC qual scope df.heap.objs.size f cd :: outer)) H s.heap h':=λb o q k nb=>by
  have ho:∃ o1,s.heap.get? b=some o1:=by
   rcases k with k|k
   ·cases z:H b with
    |none=>exact absurd z k
    |some u=>exact fh.there (I.aS b u z)
   ·exact RK.mp k
  obtain⟨o1,e1⟩:=ho;have e2:=hx.keeps b o1 e1;rw[q] at e2;cases e2;exact hideAll_get _ e1 nb
 have mv:fK (dz (envOfC qual scope df.heap.objs.size f cd :: outer)) H s.heap h' V1:=fK.of cov vw.1 up ff';obtain⟨u1,c1⟩:=xh.up (X:=kD (fT P w mg rn) P w K mg base N qual scope f cd A outer df qf E) rfl rfl rfl I (Un.kept hx.keeps) cov mv fr aS;exact⟨e,n,C,_,H,_,rfl,⟨hn,hm⟩,I.os,I.bare,u1,mv.aS fr aS,vw,c1,λb hb=>fr b (BR rfl hb),hE⟩
def LX(rn:List Str)(mg:Str->Option Value)(E:XK):Str->Hp->Prop:=λn H'=>n∈rn->∀ C,mg n=some (.ref C)->E (.ref C) none H'
def cV(K:PySem.W.Frag)(rn:List Str)(mg:Str->Option Value)(sp:eA):Sp:=λvs H Qv E=>∃ ds Qd,bp K H ds vs/\sp ds Qd /\ (∀ v H' aw m d As,aT H aw->Wf aw H'->RM K aw H' m d v As->As.Nodup->(∀ a∈As,aw a=none)->Qd m d->Qv v H') /\
 ∀ n H',aT H H'->Qd (.ow false) (.str n)->LX rn mg E n H'
theorem yJ{sp:eA}{t:WS}{vs:List V}{H:Hp}{Qv:VK}(h:cV K rn mg sp vs H Qv E)(hp:∀ ds Q,sp ds Q->t { nx:=λ_=>Q .sh .non,rt:=Q } (aX N.length ds)) :
  yi K (LX rn mg E) t { nx:=λ_ H'=>Qv .non H',rt:=Qv } (start N vs) H:=by
 obtain⟨ds,Qd,rs,hs,fin,fx⟩:=h;have hl:=rs.length;refine⟨H,aX N.length ds,[],{ nx:=λ_=>Qd .sh .non,rt:=Qd },⟨?_,⟨aT.refl _,λ_ _ e=>e⟩,kA,λa h=>nomatch h⟩,hp ds Qd hs,?_,?_,?_,?_,fx⟩
 ·unfold aX start;rw[hl];exact SR.start rs
 ·exact λbq H' aw cy cc s sr q=>fin .non H' aw .sh .non [] s sr.wf ⟨rfl,.non⟩ kA (λa h=>nomatch h) q
 ·exact λbq H' aw cy cc s sr q=>q.elim
 ·exact λbq H' aw cy cc s sr q=>q.elim
 ·exact λv H' aw m d As s w r nd own q=>fin v H' aw m d As s w r nd own q
theorem D0.ok{x:Str}{st:Stmt}{fd:FuncData}{ps:List Str}{k:Nat}{sp:eA}{t:WS}(F:eK K x qual st f fd)(S:gL N ps (bG st))(len:∀ ds Q,sp ds Q->ds.length=ps.length)(AV:∀ (bT:Value) (A:Around) (outer:List PySem.Env) (s:Shared) (H:Hp) (E:XK),gI k (A.deeper (envOfC qual (bG st) s.heap.objs.size f bT))->nX (kD (fT P w mg rn) P w K mg base N qual (bG st) f bT A outer s H E) K (LX rn mg E) (eM st) t)(hp:∀ ds Q,sp ds Q->t { nx:=λ_=>Q .sh .non,rt:=Q } (aX N.length ds)):fi P w K mg base (fT P w mg rn) (k+1) f fd ps (cV K rn mg sp):=by
 walk_at"Z";exact bT' lk oS S (λvs H Q E ⟨ds,Qd,rs,hs,_⟩=>by rw[<- rs.length];exact len ds Qd hs) λA outer s H vs Q E hr zo=>⟨_,AV bT A outer s H E hr,yJ zo hp⟩
structure iX(P:Program)(w:World)(K:PySem.W.Frag)(mg:Str->Option Value)(base:Heap)(rn:List Str)(k:Nat)(x:Str)(ps:List Str)(sp:eA):Prop where
 ex:∃ (g:Addr) (fd:FuncData),mg x=some (.ref g)/\PySem.W.keepIn K (.ref g)=true/\Binds K fd ps []/\fi P w K mg base (fT P w mg rn) k g fd ps (cV K rn mg sp)
theorem eK.D1{k:Nat}{x qual:Str}{st:Stmt}{f:Addr}{fd:FuncData}{ps:List Str}{sp:eA}(F:eK K x qual st f fd)(hm:mg x=some (.ref f))(ok:fi P w K mg base (fT P w mg rn) k f fd ps (cV K rn mg sp))(h:∀ (kV doc pm:Value) (an:Option Addr) (bT ct:Value) (us:List Value),us.length=ps.length->bindArgs (PySem.W.fnOf x qual (gi st) (eM st) (bG st) .none kV doc pm an bT ct) ⟨us,[]⟩=pure (ps.zip us)):iX P w K mg base rn k x ps sp:=⟨f,fd,hm,F.kp,F.binds h,ok⟩
end
def Tx(K:PySem.W.Frag)(mg:Str->Option Value)(n:Str):Prop:=∃ C,mg n=some (.ref C)/\mn K C
def mr(m:Md)(d:D)(Y:Str->Prop)(N:Prop):Prop:=match m,d with
 |.ow false,.str n=>Y n
 |_,_=>N
theorem zF{K:PySem.W.Frag}{Hs H:Hp}{m:Md}{d:D}{v:V}{As:List Addr}{Y:Str->Prop}{N:Prop}(r:RM K Hs H m d v As)(h:mr m d Y N):N:=by
 unfold mr at h;split at h
 ·obtain⟨r,ne⟩:=r;cases r;exact absurd rfl ne
 ·exact h
section
variable {X:Cx}{K:PySem.W.Frag}{rn:List Str}{E:XK}{e:Expr}{es:List Expr}{te:WE}{t:WA}{pos:Pos}
def eY(n:Str)(te:WE):WS:=λE ρ=>te ρ λ_ _=>E.rt (.ow false) (.str n)
theorem DN {x:Str} {C:Addr} {ta:TA} {np cw:Pos} (hc:X.calm=true) (ok:vM X rn E) (hn:x∈rn) (hm:X.mg x=some (.ref C)) (xc:mn X.K C) (ha:PA X [e] ta) (hg:Gl X x) (g7:(x == ("__debug__" : Str))=false)(he:starEach [e] X.env=[(false,eval e X.env)]):PS X (.Raise (some (.Call (.Name x np) [e] [] cw)) none pos) (λD σ H=>ta σ H λvs H1=>vs.length<=sizeLine/\E (.ref C) none H1):=by
 walk_at"ac";obtain⟨bm,N,nm,q,bs,hdct,sn,sub,ab,col,dd,k0,k1,k2,k3,k5,mN,hC,hN,BG,T⟩:=xc.obj I.mod.RQ;refine wpAny_Raise_call_subT (C:=C) (nm:=nm) (q:=q) (N:=N) (bs:=bs) (bm:=bm) (hdct:=hdct) (sn:=sn) (sub:=sub) (ab:=ab) (col:=col) (dd:=dd) (k0:=k0) (k1:=k1) (k2:=k2) (k3:=k3) (k5:=k5)
  F.excBase_ValueError (mN:=mN) (T.hasType F.excBase_ValueError.hasBase) (I.ok.hd hc) (by rw[he];rfl) BG (R1 I hg hm ⟨rfl,?_⟩ g7)
 have h2:=ha cw pins s σ H _ I h;rw[he] at h2 ⊢;exact Calls.evalArgs_plain (bX h2 λvs s1 ⟨xs,H1,I1,r,hl,q⟩=>⟨rfl,by rw[<- r.length];exact hl,I1.bk _ _ hC,hN.keeps I1.bk,T.keeps I1.bk,λh' e' hx=>ok pins σ H1 s1 h' e' x C vs I1 hx hn hm q⟩)
theorem cI {x:Str} {np cw:Pos} (hc:X.calm=true) (ok:vM X rn E) (xc:Tx K X.mg x) (hn:x∈rn) (he:QE X K e te) (hg:Gl X x:=by rfl) (g7:(x == ("__debug__" : Str))=false:=by decide) (hK:X.K=K:=by rfl) (hs:starEach [e] X.env=[(false,eval e X.env)]:=by rfl):QS X K (LX rn X.mg E) (.Raise (some (.Call (.Name x np) [e] [] cw)) none pos) (eY x te):=by
 subst hK;obtain⟨C,hm,xc⟩:=xc;refine PS.imp (DN hc ok hn hm xc (mG he rU hs) hg g7 hs) λD σ H hx=>ir hx λHs ρ ag E' sr h k1 k2 k3 k4 kx=>?_;exact⟨Hs,ρ,ag,_,sr,h,λv H1 ay m d As g1 r1 f1 q1=>⟨(by decide:1<=sizeLine),kx x H1 (g1.sh.trans g1.wf.sub) q1 hn C hm⟩⟩
section
variable {k:Nat}{x:Str}{ps:List Str}{sp:eA}{p cw:Pos}
theorem rY (C:iX X.prog X.w X.K X.mg X.base rn k x ps sp) (hr:gI k X.A) (hx:Passes (fT X.prog X.w X.mg rn) X E) {ta:TA} (ha:PA X (e :: es) ta) (hg:Gl X x) (g7:(x == ("__debug__" : Str))=false) (he:starEach (e :: es) X.env=(false,eval e X.env) :: starEach es X.env)(hZ:(backTo pos (starEach es X.env)).any (·.1)=false):PE X (.Call (.Name x p) (e :: es) [] pos) (Mb (cV X.K rn X.mg sp) [] E ta):=by
 obtain⟨g,fd,hm,hk,hb,F⟩:=C.ex;exact bM' F hr hg hm hk hb .nil hx ha g7 he hZ
theorem iw{σ:St}{H:Hp}{Qv:VK}{Hs:Hp}{ρ:Env}{ag:List Addr}{Y:Str->Prop}{Q:Md->D->Prop}(sr:dE K Hs ρ σ H ag)(h:t ρ λps=>sp (ps.map (·.2)) λm d=>mr m d Y (bP (m,d) (f:=λp=>Q (uk p.1 p.2) p.2) ⟨⟩)) (f:∀ v H' aw m d As,eS Hs H aw H'->RM K aw H' m d v As->cX aw H As->Q m d->Qv v H') (fx:∀ n H',aT Hs H'->Y n->LX rn X.mg E n H'):Mb (cV K rn X.mg sp) [] E (Vl K t) σ H Qv:=by
 walk_at"O";refine⟨_,_,by rw[og];exact r1.reps g1.wf,q1,λv H' aw m d As s w r nd own q=>?_,λn H' s q=>fx n H' (g1.sh.trans (g1.wf.sub.trans s)) q⟩;obtain⟨fI,r',fr⟩:=qZ g1.wf s w r nd own;exact Fin.after f g1 v H' _ (uk m d) d fI (g_ g1.wf s w) r' fr (zF r q)
def xH(sp:eA)(t:WA):WS:=λE ρ=>t ρ λps=>sp (ps.map (·.2)) λm d=>mr m d (λn=>E.rt (.ow false) (.str n)) (bP (m,d) (f:=λ_=>E.nx ρ) ⟨⟩)
def Hv(sp:eA)(t:WA):WS:=λE ρ=>t ρ λps=>sp (ps.map (·.2)) λm d=>mr m d (λn=>E.rt (.ow false) (.str n)) (bP (m,d) (f:=λp=>E.rt (uk p.1 p.2) p.2) ⟨⟩)
def zY(i:Nat)(sp:eA)(t:WA):WS:=λE ρ=>t ρ λps=>sp (ps.map (·.2)) λm d=>mr m d (λn=>E.rt (.ow false) (.str n)) (bP (m,d) (f:=λp=>match asg (uk p.1 p.2) p.2 with
 |some sl=>E.nx (ρ.set i (some sl))
 |none=>False) ⟨⟩)
variable (C:iX X.prog X.w X.K X.mg X.base rn k x ps sp)(hr:gI k X.A)
include C hr
variable (hx:Passes (fT X.prog X.w X.mg rn) X E)
include hx
theorem yg (ha:QA X K (e :: es) t) (hs:swapsWith (.Call (.Name x p) (e :: es) [] cw) none pos.line X.env=pure false:=by rfl) (hK:X.K=K:=by rfl) (hg:Gl X x:=by rfl) (g7:(x == ("__debug__" : Str))=false:=by decide) (he:starEach (e :: es) X.env=(false,eval e X.env) :: starEach es X.env:=by rfl) (hZ:(backTo cw (starEach es X.env)).any (·.1)=false:=by rfl):QS X K (LX rn X.mg E) (.Expr (.Call (.Name x p) (e :: es) [] cw) pos) (xH sp t):=by
 subst hK;exact PS.imp (bq' (rY C hr hx ha hg g7 he hZ) hs) λD σ H hx=>ir hx λHs ρ ag E' sr h k1 k2 k3 k4 kx=>iw (Q:=λ_ _=>E'.nx ρ) sr h (λv H1 ay m d As g1 r1 f1 q1=>k1 σ H1 ay ρ ag g1.sh (sr.grow g1) q1) kx
theorem G8 (ha:QA X K (e :: es) t) (hK:X.K=K:=by rfl) (hg:Gl X x:=by rfl) (g7:(x == ("__debug__" : Str))=false:=by decide) (he:starEach (e :: es) X.env=(false,eval e X.env) :: starEach es X.env:=by rfl) (hZ:(backTo cw (starEach es X.env)).any (·.1)=false:=by rfl):QS X K (LX rn X.mg E) (.Return (some (.Call (.Name x p) (e :: es) [] cw)) pos) (Hv sp t):=by
 subst hK;exact PS.imp (GV (rY C hr hx ha hg g7 he hZ)) λD σ H hx=>ir hx λHs ρ ag E' sr h k1 k2 k3 k4 kx=>iw (Q:=E'.rt) sr h (λv H1 ay m d As g1 r1 f1 q1=>k4 v H1 ay m d As g1.sh g1.wf r1 f1.1 (λa ha=>(f1.2 a ha).1) q1) kx
theorem wu{i:Nat}{y:Str}{pos':Pos}(hN:X.N.Nodup)(hi:X.N[i]? = some y)(hy:Loc X.env.scope y)(ha:QA X K (e :: es) t)(hs:swapsWith (.Call (.Name x p) (e :: es) [] cw) (some (.Name y pos')) pos.line X.env=pure false:=by rfl) (hf:X.fn y=true\/X.env.scope.names.lookup y=some .local:=by first|exact .inl rfl|exact .inr rfl|assumption) (hK:X.K=K:=by rfl) (hg:Gl X x:=by rfl) (g7:(x == ("__debug__" : Str))=false:=by decide) (he:starEach (e :: es) X.env=(false,eval e X.env) :: starEach es X.env:=by rfl) (hZ:(backTo cw (starEach es X.env)).any (·.1)=false:=by rfl):QS X K (LX rn X.mg E) (.Assign [.Name y pos'] (.Call (.Name x p) (e :: es) [] cw) pos) (zY i sp t):=by
 subst hK
 refine PS.imp (Ux hN hi hy (rY C hr hx ha hg g7 he hZ) hs hf) λD σ H hx=>ir hx λHs ρ ag E' sr h k1 k2 k3 k4 kx=>iw (Q:=λm d=>match asg m d with
  |some sl=>E'.nx (ρ.set i (some sl))
  |none=>False) sr h (λv H1 ay m d As g1 r1 f1 q1=>?_) kx
 cases e:asg m d with
 |none=>rw[e] at q1;exact q1.elim
 |some sl =>rw[e] at q1;obtain⟨cc,s'⟩:=(sr.grow g1).set i r1 f1.1 (λa ha=>⟨(f1.2 a ha).1,λm=>(sr.sr.own a m).ne (f1.2 a ha).2⟩) e;exact k1 _ H1 ay _ cc g1.sh s' q1
end
def xi(j:Nat)(a:Addr)(b:Bool):WE:=λρ Q=>ρ[j]? = some (some (.xc a))/\Q .sh (.bl b)
theorem pF {j:Nat} {a C:Addr} {oe:Obj} {c:Value} {vc:V} {b:Bool} {e2:Expr} {p:Pos} (hm:X.mg "isinstance" = none) (hp:(a,oe)∈X.pn) (i6:oe.cls=.ref C) (xc:mn X.K C) (hk:kitOne X.K (.ref C) c=some b) (he:PE X e (AQ j)) (ht:PE X e2 (tC vc)) (hvc:∀ u,RelV vc u->u=c)(hg:Gl X "isinstance" := by rfl) (hs:starEach (e :: [e2]) X.env=(false,eval e X.env) :: starEach [e2] X.env:=by rfl) (sf:starEach (e2 :: []) X.env=(false,eval e2 X.env) :: starEach [] X.env:=by rfl) (hZ:(backTo pos (starEach [e2] X.env)).any (·.1)=false:=by rfl) :
  QE X K (.Call (.Name "isinstance" p) [e,e2] [] pos) (xi j a b):=by
 have hc:i9 X (.builtin "isinstance") (λxs H Q=>xs=[.ref a,vc]/\Q (.bl b) H):=by intro pins s σ H xs us Q I r h;obtain⟨rfl,q⟩:=h;obtain⟨u,v,rfl,ru,rv⟩:=Vals.two r;obtain rfl:u=Value.ref a:=ru;obtain rfl:=hvc v rv;obtain⟨ho,_⟩:=I.pin (a,oe) (gE _ hp);exact kia_one (Eh xc) I.kc ⟨oe,ho,i6⟩ hk (λz=>nomatch z) λtk=>⟨.bl b,H,I.tok tk,rfl,q⟩
 refine PE.imp (R7 hc hg hm jC (mG he (mG ht rU sf) hs) (by decide) (by decide) hs hZ) λσ H Qv hx=>iq hx λHs ρ ag Q sr h f=>?_;obtain⟨ea,q⟩:=h;obtain⟨v,e1,r⟩:=sr.sr.get ea;have r:v=V.ref a:=r;subst r;exact⟨_,e1,rfl,Fin.sh f sr.wf (.bl _) q⟩
end
abbrev jY(X:Cx)(pn:List (Addr × Obj))(xe:Value->Shared->Prop):Cx:={ X with pn:=pn,xe:=xe }
abbrev BH(X:Cx)(pn:List (Addr × Obj))(a:Addr):Cx:={ X with A:=X.A.mark (some (.ref a)),calm:=false,pn:=pn,xe:=λ_ _=>False }
abbrev Hy(X:Cx)(H:Hp)(s:Shared)(p:Addr × Obj):Prop:=s.heap.get? p.1=some p.2/\H p.1=none/\p.1≠X.env.locals/\p.1∉X.fs/\∀ v,p.2.data≠.cell v
section
variable {X:Cx}{pins lS pn:List (Addr × Obj)}{σ:St}{H:Hp}{s:Shared}{xe:Value->Shared->Prop}{a:Addr}
theorem Inv.jY(I:Inv X pins σ H s)(h:∀ p∈pn++lS,Hy X H s p):Inv (jY X pn xe) lS σ H s :=
 ⟨⟨I.ok.mod,I.ok.kind,I.ok.glob,I.ok.blt,I.ok.above,I.ok.inj,I.ok.has,I.ok.y9,I.ok.hd,I.ok.frames,I.ok.AO,I.ok.tj,I.ok.bs,I.ok.tq,I.ok.zh,I.ok.wo,I.ok.qh,I.ok.xE⟩,I.os,I.bare,I.base,I.loc,I.cell,I.free,I.nE,h,I.aS,I.len⟩
theorem Inv.qt(I:Inv (L2.Q.jY X pn xe) lS σ H s)(h:∀ p∈X.pn++pins,p∈pn++lS):Inv X pins σ H s :=
 ⟨⟨I.ok.mod,I.ok.kind,I.ok.glob,I.ok.blt,I.ok.above,I.ok.inj,I.ok.has,I.ok.y9,I.ok.hd,I.ok.frames,I.ok.AO,I.ok.tj,I.ok.bs,I.ok.tq,I.ok.zh,I.ok.wo,I.ok.qh,I.ok.xE⟩,I.os,I.bare,I.base,I.loc,I.cell,I.free,I.nE,λp hp=>I.pin p (h p hp),I.aS,I.len⟩
theorem Inv.BH{pn2 dW':List (Addr × Obj)}(I:Inv (L2.Q.jY X pn xe) lS σ H s)(h:∀ p∈pn2++dW',Hy X H s p):Inv (L2.Q.BH X pn2 a) dW' σ H s :=
 ⟨⟨I.ok.mod,I.ok.kind,I.ok.glob,I.ok.blt,I.ok.above,I.ok.inj,I.ok.has,I.ok.y9,(λz=>nomatch z),I.ok.frames,I.ok.AO,I.ok.tj,I.ok.bs,I.ok.tq,I.ok.zh,I.ok.wo,I.ok.qh,I.ok.xE⟩,I.os,I.bare,I.base,I.loc,I.cell,I.free,I.nE,h,I.aS,I.len⟩
theorem Inv.K6{xe2:Value->Shared->Prop}(I:Inv (L2.Q.jY X pn xe) pins σ H s):Inv (L2.Q.jY X pn xe2) pins σ H s :=
 ⟨⟨I.ok.mod,I.ok.kind,I.ok.glob,I.ok.blt,I.ok.above,I.ok.inj,I.ok.has,I.ok.y9,I.ok.hd,I.ok.frames,I.ok.AO,I.ok.tj,I.ok.bs,I.ok.tq,I.ok.zh,I.ok.wo,I.ok.qh,I.ok.xE⟩,I.os,I.bare,I.base,I.loc,I.cell,I.free,I.nE,I.pin,I.aS,I.len⟩
theorem Inv.Gq(I:Inv (L2.Q.BH X pn a) lS σ H s)(hd:X.calm=true->X.A.handled=none)(h:∀ p∈X.pn++pins,p∈pn++lS):Inv X pins σ H s :=
 ⟨⟨I.ok.mod,I.ok.kind,I.ok.glob,I.ok.blt,I.ok.above,I.ok.inj,I.ok.has,I.ok.y9,hd,I.ok.frames,I.ok.AO,I.ok.tj,I.ok.bs,I.ok.tq,I.ok.zh,I.ok.wo,I.ok.qh,I.ok.xE⟩,I.os,I.bare,I.base,I.loc,I.cell,I.free,I.nE,λp hp=>I.pin p (h p hp),I.aS,I.len⟩
theorem SP.qt{D:Ends}{f:Flow}(h:SP (L2.Q.jY X pn xe) lS D f s)(hp:∀ p∈X.pn++pins,p∈pn++lS):SP X pins D f s:=by
 cases f with
 |next=>obtain⟨bq,H',I,q⟩:=h;exact⟨bq,H',Inv.qt I hp,q⟩
 |brk=>obtain⟨bq,H',I,q⟩:=h;exact⟨bq,H',Inv.qt I hp,q⟩
 |cont=>obtain⟨bq,H',I,q⟩:=h;exact⟨bq,H',Inv.qt I hp,q⟩
 |ret u=>obtain⟨v,bq,H',I,r,q⟩:=h;exact⟨v,bq,H',Inv.qt I hp,r,q⟩
theorem Inv.forget{h':Heap}{m:Str->Option Value}{t:Nat}(I:Inv X pins σ H s)(hn:h'.Ns X.env.locals m)(hs:Heap.SameBut X.env.locals s.heap h'):Inv X pins (List.replicate X.N.length none) H { s with heap:=h',toks:=t }:=by
 have ne:∀ b o,X.df.heap.get? b=some o->b≠X.env.locals:=λb o e=>eL (lP (da e) I.ok.above);refine⟨I.ok,I.os,I.bare,⟨λb o e n hb hx=>(hs.2 b (ne b o e)).trans (I.base.keep b o e n hb hx),λb o e n hb hx=>?_,I.base.free,λb o e hx=>?_,I.base.iN,I.base.oQ,I.base.qc⟩,⟨m,hn,λi x v e1 e2=>?_⟩,λx c e=>?_,I.free,I.nE,λp hp=>?_,λb o e=>?_,KS⟩
 ·walk_at"Q";exact⟨sl,(hs.2 b (ne b o e)).trans e1⟩
 ·walk_at"J";exact⟨o',(hs.2 b (ne b o e)).trans e1⟩
 ·rw[KG] at e2;split at e2<;>cases e2
 ·obtain⟨v,z⟩:=I.cell x c e;exact⟨v,z.sameBut hs (I.B9 x c e)⟩
 ·obtain⟨e,n,nl,nf,d⟩:=I.pin p hp;exact⟨(hs.2 p.1 nl).trans e,n,nl,nf,d⟩
 ·refine(I.aS b o e).fA (λc u hc q=>(hs.2 c ?_).trans q) (λ_ q=>q) λ_ _ q=>q;intro z;rcases hc with w|w
  ·rw[<- w,z,I.free] at e;cases e
  ·rw[z,I.free] at w;cases w
end
theorem SR.dX'{K:PySem.W.Frag}{Hs H:Hp}:∀ σ:St,SR K Hs H (List.replicate σ.length none) σ []
 |[]=>.nil
 |_ :: σ=>.non (SR.dX' σ)
theorem SR.exc{K:PySem.W.Frag}{Hs H:Hp}{a:Addr}:∀ (σ:St) (j:Nat),SR K Hs H ((List.replicate σ.length none).set j (some (.xc a))) (σ.set j (some (.ref a))) []
 |[],_=>.nil
 |_ :: σ,0=>.xc (SR.dX' σ)
 |_ :: σ,j+1=>.non (SR.exc σ j)
theorem xh.next{P:Program}{w:World}{B:Heap}{fs:List Addr}{H':Hp}{h₀ h h':Heap}(c:xh B fs H' h₀ h)(m:fK fs H' h₀ h h')(aS:fE P w H' h)(th:∀ b o,h₀.get? b=some o->∃ o',h.get? b=some o'):xh B fs H' h₀ h':=λb o e k nb=>by
 have ho:∃ o',h.get? b=some o':=by
  rcases k with k|k
  ·cases z:H' b with
   |none=>exact absurd z k
   |some u=>exact fh.there (aS b u z)
  ·obtain⟨o0,e0⟩:=RK.mp k;exact th b o0 e0
 obtain⟨o',e'⟩:=ho;have e2:=m.keep b o' e' k nb;rw[e] at e2;cases e2;exact c b o e' k nb
def XO(C:Addr)(o:Obj):Prop:=o.cls=.ref C/\∃ vs,o.data=.fields vs/\vs[2]? = some .none
def V2(body:WS)(ρh:Addr->Env)(hd:Addr->Str->WS):WS:=λE ρ =>
 body { E with rt:=λm d=>mr m d (λn=>∀ a,hd a n { nx:=λ_=>False,rt:=E.rt } (ρh a)) (E.rt m d) } ρ
structure JT(K:PySem.W.Frag)(mg:Str->Option Value)(rn:List Str)(R:Str):Prop where
 ex:∃ r,mg R=some (.ref r)/\mn K r/\∀ n C,n∈rn->mg n=some (.ref C)->mn K C/\mroIn K C (.ref r)=some true
theorem Ju{X:Cx}{K:PySem.W.Frag}{L:Str->Hp->Prop}{rn:List Str}{R:Str}{body suite:List Stmt}{dY':Stmt}{np VG pos:Pos}{j:Nat}{en:Str}{wb:WS}{ρh:Addr->Env}{hd:Addr->Str->WS}(xr:JT X.K X.mg rn R) (hN:X.N.Nodup) (hj:X.N[j]? = some en) (hl:X.env.scope.names.lookup en=some .local) (hV:X.stack=X.env :: X.outer) (hf:X.env.frame=some X.env.locals)(hρ:∀ a,ρh a=(List.replicate X.N.length none).set j (some (.xc a)))(hb:∀ pn xe E1,Passes (fT X.prog X.w X.mg rn) (jY X pn xe) E1->nX (jY X pn xe) K (LX rn X.mg E1) body wb)(hh:∀ pn a oe n C,n∈rn->X.mg n=some (.ref C)->mn X.K C->(a,oe)∈pn->XO C oe->nX (BH X pn a) K L (dY' :: suite) (hd a n)) (hg:Gl X R:=by rfl) (g7:(R == ("__debug__" : Str))=false:=by decide) :
  QS X K L (.Try body [.ExceptHandler (some (.Name R np)) (some en) (dY' :: suite) VG] [] [] pos) (V2 wb ρh hd):=by
 intro pins s σ H D I hx;obtain⟨Hs,ρ,ag,E,sr,h,k1,k2,k3,k4,kx⟩:=hx;obtain⟨r,hm,xr,sub⟩:=xr.ex;have sp0:∀ p∈X.pn++pins,p∈(X.pn++pins)++[]:=λp hp=>by rw[og];exact hp
 have AV:=hb (X.pn++pins) (λe s'=>∃ lS bq H1 s1,Inv (jY X (X.pn++pins) X.xe) lS bq H1 s1/\fT X.prog X.w X.mg rn X.stack H1 s1 (λc _ H'=>∃ n C,c=.ref C/\n∈rn/\X.mg n=some (.ref C)/\aT Hs H'/\∀ a,hd a n { nx:=λ_=>False,rt:=E.rt } (ρh a)) e s') _ (λlS bq H1 s1 e s' I1 c=>⟨lS,bq,H1,s1,Inv.K6 I1,c⟩) [] s σ H D (Inv.jY I λp hp=>I.pin p (by rw[og] at hp;exact hp)) ⟨Hs,ρ,ag,_,sr,h,k1,k2,k3,λv H' aw m d As s2 w2 r2 nd own q=>k4 v H' aw m d As s2 w2 r2 nd own (zF r2 q),λn H' s2 q hn C hC=>⟨n,C,rfl,hn,hC,s2,q⟩⟩
 refine wpAny_Try_except (rj AV (λf s1 hs=>?_) λe s' hx=>?_)
 ·have hs:=SP.qt hs sp0
  cases f with
  |next =>obtain⟨bq,H',I',q⟩:=hs;exact bp' pins s1 bq H' D I' q
  |brk=>exact hs
  |cont=>exact hs
  |ret u=>exact hs
 ·obtain⟨lS,bq,H1,s1,I1,a,n',C,a0,H',B,rfl,RX,os,bare,un,aS,vw,cov,fr,n,C2,eC,hn,qq,sm,hq⟩:=hx;cases eC;obtain⟨xc,VQ⟩:=sub n C hn qq;obtain⟨V3,g',d',t',UJ⟩:=s';obtain rfl:UJ=s1.os:=os;have lA':FC B (X.env :: X.outer) a (.ref C) a0 V3:=hV ▸ vw;have th:∀ b o,s1.heap.get? b=some o->∃ o',V3.get? b=some o':=λb o e=>un.there b o e (by simp);refine FQ (hV ▸ I.ok.frames) hf lA' λh4 held FD=>tE (fr:=none) held λh5 Tz up5=>?_;have V4:fK (dz X.stack) H' s1.heap V3 h5:=fK.of cov Tz.1 (FD.trans up5) vw.2.2.1;have dZ':=cov.next V4 aS th;have V5:=V4.un un;have V6:=V4.aS fr aS;have I5:Inv (jY X (X.pn++pins) X.xe) lS bq H' ⟨h5,g',d',t',s1.os⟩:=I1.call (h':=h5) (g':=g') (d':=d') (t':=t') (ch:=[]) V5 V6 bare (λb z=>absurd z (by simp));refine wpAny_handleBy_cons (codeAny_handlers_test ?_) (by intro q;cases q);refine R1 (X:=BH X (X.pn++pins) a) (pins:=lS) (Inv.BH I5 λp hp=>I5.pin p hp) hg hm ?_ g7;refine wQ xc xr VQ I5.kc Tz.there (codeAny_handlers_suite_as ?_);refine tE (fr:=none) Tz λh6 TB up6=>?_;have ff5:h5.FunFrames B X.stack:=hV ▸ Tz.2.2.1;have V7:fK (dz X.stack) H' s1.heap h5 h6:=fK.of dZ' TB.1 up6 ff5;have un6:=V7.un V5;have lF':=V7.aS fr V6;have I6:Inv (jY X (X.pn++pins) X.xe) lS bq H' ⟨h6,g',d',t',s1.os⟩:=I1.call (h':=h6) (g':=g') (d':=d') (t':=t') (ch:=[]) un6 lF' bare (λb z=>absurd z (by simp));obtain⟨oe,vs,he,i6,I0,h62⟩:=TB.first;have nf:a∉dz X.stack:=λz=>by have ff6:h6.FunFrames B X.stack:=hV ▸ TB.2.2.1;obtain⟨_,o,e1,d1⟩:=ff6.mem z;rw[he] at e1;cases e1;exact d1 vs I0
  have na:H' a=none:=by
   cases z:H' a with
   |none=>rfl
   |some u =>have:=(dZ'.next V7 V6 λb o e=>V5.there b o e (by simp)) a oe he (.inl (by rw[z];exact λz=>nomatch z)) nf;rw[TB.2.1] at this;cases this
  have frm:∀ b,b∈dz X.stack↔b=X.env.locals\/b∈X.fs:=λb=>by rw[hV];unfold dz;rw[vS,hf];exact dc
  have pa:Hy X H' ⟨h6,g',d',t',s1.os⟩ (a,oe):=⟨he,na,λz=>nf ((frm a).mpr (.inl z)),λz=>nf ((frm a).mpr (.inr z)),λv z=>by rw[I0] at z;cases z⟩
  have I6h:Inv (BH X ((a,oe) :: (X.pn++pins)) a) [] bq H' ⟨h6,g',d',t',s1.os⟩:=Inv.BH I6 λp hp=>by
   rw[og] at hp;rcases dc.mp hp with z|z
   ·rw[z];exact pa
   ·exact I6.pin p (gE _ z)
  refine bg' (X:=BH X ((a,oe) :: (X.pn++pins)) a) (v:=.ref a) I6h hN hj (.inl hl) rfl (λs7 I7 _=>?_) (.inr hl);refine rj (hh ((a,oe) :: (X.pn++pins)) a oe n C hn qq xc dv ⟨i6,vs,I0,h62⟩ [] s7 (bq.set j (some (.ref a))) H' { nx:=λ_ _=>False,rt:=D.rt } I7 ⟨H',ρh a,[],_,⟨by rw[hρ a,<- (show bq.length=X.N.length from I1.len)];exact SR.exc bq j,⟨aT.refl _,λ_ _ e=>e⟩,kA,λa h=>nomatch h⟩,hq a,λ_ _ _ _ _ _ _ z=>z,λ_ _ _ _ _ _ _ z=>z,λ_ _ _ _ _ _ _ z=>z,
    λv H2 aI m d As s2=>k4 v H2 aI m d As (sm.trans s2),λn H2 s2=>kx n H2 (sm.trans s2)⟩) (λf s8 hs=>?_) λ_ _ z=>z.elim
  cases f with
  |next=>obtain⟨_,_,_,z⟩:=hs;exact z.elim
  |brk=>obtain⟨_,_,_,z⟩:=hs;exact z.elim
  |cont=>obtain⟨_,_,_,z⟩:=hs;exact z.elim
  |ret u =>
   obtain⟨v,σ8,H8,I8,rv,q⟩:=hs;have I9:Inv X pins σ8 H8 s8:=Inv.Gq I8 I.ok.hd λp hp=>by rw[og];exact cK _ hp
   obtain⟨m,hn8,_⟩:=id I9.loc;exact wpAny_nameGoes hl hn8 (by rw[I9.ok.kind];rfl) λh9 m9 hn9 sb=>⟨v,_,H8,Inv.forget I9 hn9 sb,rv,q⟩
end L2.Q
namespace L2.Q
open PySem PySem.Spec PyProof.Rows
theorem rD:bootBuiltins "ValueError" = some (.type "ValueError"):=by decide +kernel
end L2.Q
namespace L2.Q.R
open PySem PySem.Spec PyProof.Rows L2.Q
section
variable {E:n8}{ρ:Env}{Q:Md->L2.Q.D->Prop}{te:WE}{tar:WA}{i j:Nat}{a:Addr}{b:Bool}{sp:eA}{n:Str}{d:L2.Q.D}{Y:Str->Prop}{N:Prop}{t:WS}{ρh:Addr->Env}{hd:Addr->Str->WS}
theorem Mj:eY n te E ρ=te ρ λ_ _=>E.rt (.ow false) (.str n):=rfl
theorem Mw:xH sp tar E ρ=tar ρ λps=>sp (ps.map (·.2)) λm d=>mr m d (λn=>E.rt (.ow false) (.str n)) (bP (m,d) (f:=λ_=>E.nx ρ) ⟨⟩):=rfl
theorem OJ:Hv sp tar E ρ=tar ρ λps=>sp (ps.map (·.2)) λm d=>mr m d (λn=>E.rt (.ow false) (.str n)) (bP (m,d) (f:=λp=>E.rt (uk p.1 p.2) p.2) ⟨⟩):=rfl
theorem M_:zY i sp tar E ρ=tar ρ λps=>sp (ps.map (·.2)) λm d=>mr m d (λn=>E.rt (.ow false) (.str n)) (bP (m,d) (f:=λp=>bP (asg (uk p.1 p.2) p.2) (f:=λo=>put o λsl=>E.nx (ρ.set i (some sl))) ⟨⟩) ⟨⟩):=rfl
theorem Qn:V2 t ρh hd E ρ=t { E with rt:=λm d=>mr m d (λn=>∀ a,hd a n { nx:=λ_=>False,rt:=E.rt } (ρh a)) (E.rt m d) } ρ:=rfl
theorem Qi:xi j a b ρ Q=(ρ[j]? = some (some (.xc a))/\Q .sh (.bl b)):=rfl
theorem Pz:mr (.ow false) (.str n) Y N=Y n:=rfl
theorem Pb:mr .sh d Y N=N:=rfl
theorem Nr:mr .bo d Y N=N:=rfl
theorem Ov:mr (.ow true) d Y N=N:=rfl
theorem PB{xs:List L2.Q.D}:mr (.ow b) (.list xs) Y N=N:=by cases b<;>rfl
theorem QR{xs:List L2.Q.D}:mr (.ow b) (.tup xs) Y N=N:=by cases b<;>rfl
theorem Qo{xs:List (Key × L2.Q.D)}:mr (.ow b) (.dK xs) Y N=N:=by cases b<;>rfl
theorem QZ{xs:List (List Key × L2.Q.D)}:mr (.ow b) (.dT xs) Y N=N:=by cases b<;>rfl
end
end L2.Q.R
namespace L2.Q
open PySem PySem.Spec PyProof.Rows
def P5(m:Md)(d:D)(S:D->D->Prop)(O:D->D->Prop):Prop:=match m,d with
 |.sh,.tup [a,b]=>S a b
 |.ow true,.tup [a,b]=>a.flat=false/\b.flat=false/\O a b
 |_,_=>False
def Hm(i j:Nat)(te:WE):WS:=λE ρ=>te ρ λm d=>P5 m d (λa b=>E.nx ((ρ.set i (some (.sh a))).set j (some (.sh b)))) λa b=>E.nx ((ρ.set i (some (.ow true a))).set j (some (.ow true b)))
theorem Gk{X:Cx}{K:PySem.W.Frag}{L:Str->Hp->Prop}{e:Expr}{te:WE}{i j:Nat}{x y:Str}{k:Nat}{p1 p2 p3 pos:Pos}(hc:X.calm=true)(hN:X.N.Nodup)(hi:X.N[i]? = some x)(hx:Loc X.env.scope x)(hj:X.N[j]? = some y)(hy:Loc X.env.scope y)(he:QE X K e te)(hK:X.K=K:=by rfl) (hf:X.fn x=true\/X.env.scope.names.lookup x=some .local:=by first|exact .inl rfl|exact .inr rfl|assumption) (hf2:X.fn y=true\/X.env.scope.names.lookup y=some .local:=by first|exact .inl rfl|exact .inr rfl|assumption) (hn:(assignEach [.Name x p1,.Name y p2] X.env).length=2:=by rfl) (hV:(assignEach [.Name x p1,.Name y p2] X.env).findIdx? (·.1)=none:=by rfl) (hs:swapsWithSole [.Tuple [.Name x p1,.Name y p2] k p3] e pos.line X.env=pure false:=by rfl) (hw:swappedStores [.Tuple [.Name x p1,.Name y p2] k p3] e X.env=pure none:=by rfl) (h1:(assignEach [.Tuple [.Name x p1,.Name y p2] k p3] X.env).map (·.2)=[assign (.Tuple [.Name x p1,.Name y p2] k p3) X.env]:=by rfl) (h2:(assignEach [.Name x p1,.Name y p2] X.env).map (·.2)=assign (.Name x p1) X.env :: (assignEach [.Name y p2] X.env).map (·.2):=by rfl) (h3:(assignEach [.Name y p2] X.env).map (·.2)=assign (.Name y p2) X.env :: (assignEach [] X.env).map (·.2):=by rfl) :
  QS X K L (.Assign [.Tuple [.Name x p1,.Name y p2] k p3] e pos) (Hm i j te):=by
 subst hK;refine PS.imp (gt' he (gs' hc (bt' (Uw hN hi hx hf) (bt' (Uw hN hj hy hf2) gp' h3) h2) hn hV) hs hw h1) λD σ H hx=>iM hx λHs ρ ag E sr h k1 k2 k3 k4=>?_;walk_at"P";have Jn:=sr.grow g1;unfold P5 at q1;split at q1
 ·rename_i a b;obtain⟨_,r⟩:=r1
  cases r with
  |tup z e rs =>
   cases rs with
   |cons ra rs=>cases rs with
    |cons rb rs=>cases rs with
     |nil =>obtain⟨t1,m1,s1⟩:=Jn.Hd i ra;obtain⟨t2,m2,s2⟩:=s1.Hd j rb;exact⟨_,_,rfl,.inl (.inl (g1.wf.sub _ _ e)),rfl,_,_,rfl,_,_,rfl,rfl,k1 _ H1 ay _ t2 g1.sh s2 q1⟩
 ·rename_i a b;obtain⟨fa,fb,q1⟩:=q1;obtain⟨r,ne⟩:=r1
  cases r with
  |sh _ _=>exact absurd rfl ne
  |tup z e n rs =>
   cases rs with
   |@cons _ v1 _ _ A1 _ ra rs=>cases rs with
    |@cons _ v2 _ _ A2 _ rb rs=>cases rs with
     |nil =>
      obtain⟨nd,fr⟩:=f1;rw[og] at nd fr;obtain⟨n1,n2,n3⟩:=hJ.mp nd;have dj:∀ c∈A1++A2,c∉ag:=λc hc z=>(sr.sr.own c z).ne (fr c hc).2;obtain⟨t1,a1,b1,c1⟩:=SR.Cg (ra.ne fa) ra n1 i Jn.sr Jn.qE λc hc=>dj c (gE _ hc);obtain⟨t2,a2,b2,c2⟩:=SR.Cg (rb.ne fb) rb n2 j c1 a1 λc hc z=>by
       rcases b1 c z with w|w
       ·exact dj c (dQ _ hc) w
       ·exact n3 c w c hc rfl
      refine⟨_,_,rfl,.inl (.inl (g1.wf.sub _ _ e)),rfl,_,_,rfl,_,_,rfl,rfl,k1 _ H1 ay _ t2 g1.sh ⟨c2,g1.wf,a2,λc hc=>?_⟩ q1⟩;rcases b2 c hc with w|w
      ·rcases b1 c w with w|w
       ·exact Jn.own c w
       ·exact(fr c (gE _ w)).1
      ·exact(fr c (dQ _ w)).1
 ·exact q1.elim
end L2.Q
namespace L2.Q.R
open PySem PySem.Spec PyProof.Rows L2.Q
section
variable {E:n8}{ρ:Env}{te:WE}{i j:Nat}{x y:L2.Q.D}{S O:L2.Q.D->L2.Q.D->Prop}
theorem O4:Hm i j te E ρ=te ρ λm d=>bP (m,d) (f:=λp=>P5 p.1 p.2 (λa b=>E.nx ((ρ.set i (some (.sh a))).set j (some (.sh b)))) λa b=>E.nx ((ρ.set i (some (.ow true a))).set j (some (.ow true b)))) ⟨⟩:=rfl
theorem K9:P5 .sh (.tup [x,y]) S O=S x y:=rfl
theorem Mm:P5 (.ow true) (.tup [x,y]) S O=(x.flat=false/\y.flat=false/\O x y):=rfl
end
end L2.Q.R
namespace L2
open PySem PySem.Spec PyProof.Rows Builtin Builtin.Str Builtin.Int
end L2
namespace L2.Q
open PySem PySem.Spec PyProof.Rows
section
variable {X:Cx}{K:PySem.W.Frag}{a b:Expr}{ta tb:WE}{pos:Pos}
def TC(t:WE):WE:=λρ Q=>t ρ λm d=>pR m/\Q .sh d
theorem ea'(h:QE X K a ta):QE X K a (TC ta):=by
 refine PE.imp h λσ H Qv hx=>iq hx λHs ρ ag Q sr h fin=>?_;walk_at"P";obtain⟨nb,q⟩:=q1
 cases m with
 |sh=>exact fin v H1 ay .sh d As g1 r1 f1 q
 |bo=>exact nb.elim
 |ow fl =>
  obtain⟨r,ne⟩:=r1;have hn:∀ a∈As,ay a=none:=λa h=>(f1.2 a h).1;have s:=jy (H:=H1) hn;refine fin v H1 (sM ay H1 As) .sh d [] ⟨g1.all,g1.sh.trans s,Ah g1.wf r.own,λc hc=>?_⟩ ⟨rfl,r.rep s λc hc=>by unfold sM;rw[if_pos hc]⟩ ⟨kA,λ_ h=>w9 h⟩ q;unfold sM at hc;split at hc
  ·rename_i m;exact .inr (f1.2 c m).2
  ·exact g1.new c hc
def D2(o:Option (Option Sl))(k:List D->Prop):Prop:=match o with
 |some (some (.ow true (.list xs)))=>k xs
 |_=>False
def intD(y:D)(k:Int->Prop):Prop:=match y with
 |.int i=>k i
 |_=>False
def FE(d:D):Md:=bif d.flat then .sh else .ow true
def xM(i:Nat)(tb:WE):WS:=λE ρ=>D2 ρ[i]? λxs=>tb ρ λ_ y=>intD y λk=>∃ d,L2.fv xs k=some d/\E.rt (FE d) d
theorem D_{L:Str->Hp->Prop}{i:Nat}{pos':Pos}(he:PE X a (AQ i))(hb:QE X K b tb)(hs:UO b:=by exact λ_ _=>rfl)(hK:X.K=K:=by rfl):QS X K L (.Return (some (.Subscript a b pos)) pos') (xM i tb) :=
 PS.imp (GV (bY' (kIx hK) he hb hs)) λD σ H hx=>iM hx λHs ρ ag E sr h k1 k2 k3 k4=>by
 unfold xM D2 at h;split at h
 ·rename_i xs e1;obtain⟨v,As,e2,ne,r,sb⟩:=sr.sr.at e1
  cases r with
  |sh _ _=>exact absurd rfl ne
  |@list a vs _ As z e rs =>
   refine⟨_,e2,Hs,ρ,ag,_,sr,h,λu H1 ay m y Bs g1 r1 f1 q1=>?_⟩;have ry:=r1.rep g1.wf
   cases ry with
   |int k =>
    obtain⟨d,e3,q⟩:=q1;obtain⟨j,ej,ed⟩:=JP e3;have nd:As.Nodup:=(ny.mp (sb.nodup sr.qE)).2;obtain⟨w,B,ew,pd,sB,_⟩:=rs.at ed nd;have sub:∀ c∈B,c∈ag:=λc hc=>sb.subset (cK _ (sB.subset hc));have r2:=pd.grow g1.sh g1.all;refine .inl ⟨vs,w,.inl (.inl (g1.all _ _ e)),Mi (by rw[<- rs.length];exact ej) ew,?_⟩;have Jn:=sr.grow g1
    cases hf:d.flat with
    |true =>rw[FE,hf] at q;exact k4 w H1 ay .sh d [] g1.sh g1.wf ⟨rfl,(r2.rep g1.wf.sub λ_ _=>rfl).lg g1.wf.iN hf⟩ kA (λc hc=>w9 hc) q
    |false =>rw[FE,hf] at q;exact k4 w H1 ay (.ow true) d B g1.sh g1.wf ⟨r2,r2.ne hf⟩ (sB.nodup nd) (λc hc=>Jn.own c (sub c hc)) q
   |_=>exact q1.elim
 ·exact h.elim
end
end L2.Q
namespace L2.Q.R
open PySem PySem.Spec PyProof.Rows L2.Q
section
variable {ρ:Env}{te:WE}{m:Md}{ys:List L2.Q.D}{Q:Md->L2.Q.D->Prop}
theorem Mu{E:n8}{i:Nat}:xM i te E ρ=bP ρ[i]? (f:=λo=>D2 o λxs=>te ρ λ_ y=>bP y (f:=λy=>intD y λk=>∃ d,fv xs k=some d/\bP d (f:=λd=>E.rt (FE d) d) ⟨⟩) ⟨⟩) ⟨⟩:=rfl
theorem Oo{k:List L2.Q.D->Prop}:D2 (some (some (.ow true (.list ys)))) k=k ys:=rfl
theorem O8{i:Int}{k:Int->Prop}:intD (.int i) k=k i:=rfl
theorem lN':TC te ρ Q=te ρ λm d=>pR m/\Q .sh d:=rfl
end
end L2.Q.R
namespace L2
open PySem PySem.Spec PyProof.Rows
end L2
namespace L2.Q
open PySem PySem.Spec PyProof.Rows
section
def onD(x:D)(f:List (Key × D)->Prop)(g:List (List Key × D)->Prop):Prop:=match x with
 |.dK ae=>f ae
 |.dT ae=>g ae
 |_=>False
def lO'(y:D)(k:List D->Prop):Prop:=match y with
 |.tup ys=>k ys
 |_=>False
def lP'(o:Option (Option Sl))(k:List (List Key × D)->Prop):Prop:=match o with
 |some (some (.ow true (.dT ae)))=>k ae
 |_=>False
end
end L2.Q
namespace L2
open PySem PySem.Spec PyProof.Rows
end L2
namespace L2.Q
open PySem PySem.Spec PyProof.Rows
section
variable {K:PySem.W.Frag}{a b c:Expr}
def lQ'(d:D)(k:List (Key × D)->Prop):Prop:=match d with
 |.dK ae=>k ae
 |_=>False
theorem SR.take{Hs H:Hp}{ρ:Env}{σ:St}{ag:List Addr}(i:Nat){fl:Bool}{d:D}(s:SR K Hs H ρ σ ag):ρ[i]? = some (some (.ow fl d))->ag.Nodup ->
  ∃ (v:V) (As cc:List Addr),σ[i]? = some (some v)/\bS K Hs H fl d v As/\As.Sublist ag/\cc.Sublist ag/\(∀ a∈As,a∉cc)/\SR K Hs H (ρ.set i none) σ cc:=by
 induction s generalizing i with
 |nil=>intro e;simp at e
 |non q ih =>
  intro e n
  cases i with
  |zero=>simp at e
  |succ i =>obtain⟨v,As,t,o,a,b,c,d,f⟩:=ih i e n;exact⟨v,As,t,o,a,b,c,d,.non f⟩
 |sh r q ih =>
  intro e n
  cases i with
  |zero=>simp at e
  |succ i =>obtain⟨v,As,t,o,a,b,c,d,f⟩:=ih i e n;exact⟨v,As,t,o,a,b,c,d,.sh r f⟩
 |xc q ih =>
  intro e n
  cases i with
  |zero=>simp at e
  |succ i =>obtain⟨v,As,t,o,a,b,c,d,f⟩:=ih i e n;exact⟨v,As,t,o,a,b,c,d,.xc f⟩
 |ow ne r q ih =>
  intro e n;walk_at"n"
  cases i with
  |zero =>simp at e;obtain⟨rfl,rfl⟩:=e;exact⟨_,_,_,rfl,r,FK _ _,pV _ _,λa h m=>n3 a h a m rfl,.non q⟩
  |succ i =>obtain⟨v,As,t,o,a,b,c,d,f⟩:=ih i e n2;exact⟨v,As,_,o,a,b.trans (pV _ _),c.append_left _,rJ n b d,.ow ne r f⟩
 |lk ne r q ih =>
  intro e n;walk_at"n"
  cases i with
  |zero=>simp at e
  |succ i =>obtain⟨v,As,t,o,a,b,c,d,f⟩:=ih i e n2;exact⟨v,As,_,o,a,b.trans (pV _ _),c.append_left _,rJ n b d,.lk ne r f⟩
theorem Ii{o:Option (Option Sl)}{k:List D->Prop}(h:D2 o k):∃ xs,o=some (some (.ow true (.list xs)))/\k xs:=by
 unfold D2 at h;split at h
 ·exact⟨_,rfl,h⟩
 ·exact h.elim
end
end L2.Q
namespace L2.Q.R
open PySem PySem.Spec PyProof.Rows L2.Q
section
variable {ys:List L2.Q.D}{Q:Md->L2.Q.D->Prop}{k:Nat}
theorem Qg{ae:List (Key × L2.Q.D)}{k:List (Key × L2.Q.D)->Prop}:lQ' (.dK ae) k=k ae:=rfl
theorem QC{ae:List (Key × L2.Q.D)}{f:List (Key × L2.Q.D)->Prop}{g:List (List Key × L2.Q.D)->Prop}:onD (.dK ae) f g=f ae:=rfl
theorem PX{ae:List (List Key × L2.Q.D)}{f:List (Key × L2.Q.D)->Prop}{g:List (List Key × L2.Q.D)->Prop}:onD (.dT ae) f g=g ae:=rfl
theorem Qz{k:List L2.Q.D->Prop}:lO' (.tup ys) k=k ys:=rfl
theorem Qw{ae:List (List Key × L2.Q.D)}{k:List (List Key × L2.Q.D)->Prop}:lP' (some (some (.ow true (.dT ae)))) k=k ae:=rfl
end
end L2.Q.R
namespace PySem.SeqAt
open AutoSeq1 (wpAny_loadPart')
open MeetsSeq MeetsSeq2 MeetsSeq3 SeqRoads2
def TF(A:Around)(s:Shared)(u v:Value)(b:Bool):Prop:=∀ (prog:Program) (w:World) (Q:Value->Shared->Prop) (E:Value->Shared->Prop),Q (.bool b) s->wpAny (model prog w) A (richCompare .Lt u v) Q E s
section
variable {A:Around}{s:Shared}
theorem TF.int(a:Int)(t:Tok)(b:Int)(u:Tok):TF A s (.int a t) (.int b u) (decide (a<b)):=λprog w Q E h=>(show wpAny _ _ (compareOp .Lt _ _) _ _ _ from PyProof.Rows.lt_int h)
theorem TF.str(a:Str)(t:Tok)(b:Str)(u:Tok):TF A s (.str a t) (.str b u) (decide (a.cps.toList<b.cps.toList)):=λprog w Q E h=>(show wpAny _ _ (compareOp .Lt _ _) _ _ _ from PySem.P.lt_str h)
end
def vx(lt:PyData->PyData->Bool):List PyData->List PyData->Bool
 |[],ys=>!ys.isEmpty
 |_ :: _,[]=>false
 |x :: xs,y :: ys=>if PyData.eqv x y then vx lt xs ys else lt x y
def i3:Nat->PyData->PyData->Bool
 |_,.int i,.int j=>decide (i<j)
 |_,.str x,.str y=>decide (x.cps.toList<y.cps.toList)
 |n+1,.list xs,.list ys=>vx (i3 n) xs ys
 |n+1,.tuple xs,.tuple ys=>vx (i3 n) xs ys
 |_,_,_=>false
theorem v_{h:Heap}{xs:List PyData}:∀ {vs:List Value} {as:List Addr},ReadsAll h vs xs as->∀ (j:Nat) (v:Value),vs[j]? = some v->∃ x bs,xs[j]? = some x/\Reads h v x bs:=by
 induction xs with
 |nil =>intro vs as r j v hv;cases r;simp at hv
 |cons x xs ih =>
  intro vs as r j v hv
  cases r with
  |cons r rs =>
   cases j with
   |zero =>simp at hv;subst hv;exact⟨x,_,rfl,r⟩
   |succ j=>exact ih rs j v (by simpa using hv)
end PySem.SeqAt
namespace L2
open PySem PySem.Spec PyProof.Rows PySem.SeqAt
structure xk(lt:PyData->PyData->Bool)(S:PyData->Prop):Prop where
 TH:∀ x,S x->lt x x=false
 tr:∀ x y z,S x->S y->S z->lt x y=true->lt y z=true->lt x z=true
 ag:∀ x y,S x->S y->lt x y=false->lt y x=false->x=y
 eqv:∀ x y,S x->S y->(PyData.eqv x y=true↔x=y)
theorem xk.int(n:Nat):xk (i3 n) λx=>∃ i,x=.int i where
 TH:=by rintro x ⟨i,rfl⟩;rw[i3];simp
 tr:=by rintro x y z ⟨i,rfl⟩ ⟨j,rfl⟩ ⟨k,rfl⟩;rw[i3,i3,i3];simp only[decide_eq_true_eq];lia
 ag:=by rintro x y ⟨i,rfl⟩ ⟨j,rfl⟩;rw[i3,i3];simp only[decide_eq_false_iff_not,PyData.int.injEq];lia
 eqv:=by rintro x y ⟨i,rfl⟩ ⟨j,rfl⟩;simp[PyData.eqv]
theorem xk.str(n:Nat):xk (i3 n) λx=>∃ s,x=.str s where
 TH:=by rintro x ⟨i,rfl⟩;rw[i3];exact z9 i
 tr:=by rintro x y z ⟨i,rfl⟩ ⟨j,rfl⟩ ⟨k,rfl⟩;rw[i3,i3,i3];exact λh g=>El (y:=j) h g
 ag:=by rintro x y ⟨i,rfl⟩ ⟨j,rfl⟩;rw[i3,i3];exact λh g=>by rw[Ck (x:=i) (y:=j) h g]
 eqv:=by rintro x y ⟨i,rfl⟩ ⟨j,rfl⟩;simp[PyData.eqv]
section
variable {lt:PyData->PyData->Bool}{S:PyData->Prop}
theorem Dw(T:xk lt S)(xs:List PyData)(h:∀ x∈xs,S x):vx lt xs xs=false:=by
 induction xs with
 |nil=>rfl
 |cons x xs ih =>rw[vx,if_pos ((T.eqv x x (h x dv) (h x dv)).mpr rfl)];exact ih λy hy=>h y (cK _ hy)
open Classical in
theorem gP(T:xk lt S){x y:PyData}{xs ys:List PyData}(hx:S x)(hy:S y):vx lt (x :: xs) (y :: ys)=if x=y then vx lt xs ys else lt x y:=by
 rw[vx];by_cases e:x=y
 ·rw[if_pos e,if_pos ((T.eqv x y hx hy).mpr e)]
 ·rw[if_neg e,if_neg λz=>e ((T.eqv x y hx hy).mp z)]
theorem DX(T:xk lt S)(xs:List PyData):∀ ys:List PyData,(∀ x∈xs,S x)->(∀ y∈ys,S y)->vx lt xs ys=false->vx lt ys xs=false->xs=ys:=by
 induction xs with
 |nil =>
  intro ys _ _ h _
  cases ys with
  |nil=>rfl
  |cons y ys=>cases h
 |cons x xs ih =>
  intro ys hx hy h1 h2
  cases ys with
  |nil=>cases h2
  |cons y ys =>
   have sx:=hx x dv;have sy:=hy y dv;rw[gP T sx sy] at h1;rw[gP T sy sx] at h2;by_cases e:x=y
   ·subst e;rw[if_pos rfl] at h1 h2;rw[ih ys (λz hz=>hx z (cK _ hz)) (λz hz=>hy z (cK _ hz)) h1 h2]
   ·rw[if_neg e] at h1;rw[if_neg λz=>e z.symm] at h2;exact absurd (T.ag x y sx sy h1 h2) e
theorem Gi(T:xk lt S)(xs:List PyData):∀ ys zs:List PyData,(∀ x∈xs,S x)->(∀ y∈ys,S y)->(∀ z∈zs,S z)->vx lt xs ys=true->vx lt ys zs=true->vx lt xs zs=true:=by
 induction xs with
 |nil =>
  intro ys zs _ _ _ h1 h2
  cases zs with
  |cons z zs=>rfl
  |nil =>
   cases ys with
   |nil=>cases h1
   |cons y ys=>cases h2
 |cons x xs ih =>
  intro ys zs hx hy hz h1 h2
  cases ys with
  |nil=>cases h1
  |cons y ys =>
   cases zs with
   |nil=>cases h2
   |cons z zs =>
    have sx:=hx x dv;have sy:=hy y dv;have sz:=hz z dv;rw[gP T sx sy] at h1;rw[gP T sy sz] at h2;rw[gP T sx sz];have tl:=ih ys zs (λz hz=>hx z (cK _ hz)) (λz hz=>hy z (cK _ hz)) λw hw=>hz w (cK _ hw);by_cases e1:x=y
    ·subst e1;rw[if_pos rfl] at h1;by_cases e2:x=z
     ·subst e2;rw[if_pos rfl] at h2 ⊢;exact tl h1 h2
     ·rw[if_neg e2] at h2 ⊢;exact h2
    ·rw[if_neg e1] at h1;by_cases e2:y=z
     ·subst e2;rw[if_neg e1];exact h1
     ·rw[if_neg e2] at h2;have t:=T.tr x y z sx sy sz h1 h2;by_cases e3:x=z
      ·subst e3;rw[T.TH x sx] at t;cases t
      ·rw[if_neg e3];exact t
theorem yx(T:xk lt S)(xs:List PyData):∀ ys:List PyData,(∀ x∈xs,S x)->(∀ y∈ys,S y)->(PyData.eqvAll xs ys=true↔xs=ys):=by
 induction xs with
 |nil=>intro ys _ _;cases ys<;>simp[PyData.eqvAll]
 |cons x xs ih =>
  intro ys hx hy
  cases ys with
  |nil=>simp[PyData.eqvAll]
  |cons y ys =>have h1:=T.eqv x y (hx x dv) (hy y dv);have h2:=ih ys (λz hz=>hx z (cK _ hz)) λz hz=>hy z (cK _ hz);simp only[PyData.eqvAll,i7,List.cons.injEq];exact and_congr h1 h2
end
theorem xk.list{n:Nat}{S:PyData->Prop}(T:xk (i3 n) S):xk (i3 (n+1)) λx=>∃ xs,x=.list xs/\∀ y∈xs,S y where
 TH:=by rintro x ⟨xs,rfl,h⟩;rw[i3];exact Dw T xs h
 tr:=by rintro x y z ⟨xs,rfl,h⟩ ⟨ys,rfl,h'⟩ ⟨zs,rfl,V1⟩;rw[i3,i3,i3];exact Gi T xs ys zs h h' V1
 ag:=by rintro x y ⟨xs,rfl,h⟩ ⟨ys,rfl,h'⟩;rw[i3,i3];exact λh1 h2=>by rw[DX T xs ys h h' h1 h2]
 eqv:=by rintro x y ⟨xs,rfl,h⟩ ⟨ys,rfl,h'⟩;rw[PyData.list.injEq];exact yx T xs ys h h'
section
open Classical in
def CV(h:Heap)(v:Value):PyData:=if z:∃ d as,Reads h v d as/\d.canLay0=true then z.choose else .none
theorem Eg{h:Heap}{v:Value}{d:PyData}{as:List Addr}(r:Reads h v d as)(l:d.canLay0=true):CV h v=d:=by
 have z:∃ d as,Reads h v d as/\d.canLay0=true:=⟨d,as,r,l⟩
 unfold CV;rw[dif_pos z];obtain⟨bs,r2,l2⟩:=z.choose_spec;exact Reads.unique _ _ _ _ _ l2 r2 r
end
end L2
namespace L2.Q
open PySem PySem.Spec PyProof.Rows PySem.SeqAt
section
theorem vK(xs:List D):qS xs=xs.map D.py:=by
 induction xs with
 |nil=>rfl
 |cons x xs ih=>rw[qS,ih];rfl
end
end L2.Q
namespace L2
open PySem PySem.Spec PyProof.Rows PySem.SeqAt
section
variable {X:Cx}
def HR(K:PySem.W.Frag):V->List V->Hp->VK->Prop:=λx xs H Q=>∃ l ys ds y d,∃ j:Nat,x=.ref l/\xs=[y]/\eJ K H l ys/\bp K H ds ys/\Rep K H d y/\(∀ e∈ds,e.canLay0=true/\e.depth<=20)/\d.canLay0=true /\ (∃ e,ds[j]? = some e/\PyData.eqv e d=true)/\(∀ (m:Nat) e,m<j->ds[m]? = some e->PyData.eqv e d=false)/\Q (.int j) H
theorem Du (hu:X.A.units+64<cLine):HC X "list.index" (HR X.K):=by
 intro pins s σ H x vs v us Q I rx rv h;obtain⟨l,ys,ds,y,d,j,rfl,rfl,hl,hr,hd,hS,ld,⟨e,ej,eq⟩,Dp,q⟩:=h;cases rx;obtain⟨u,rfl,ru⟩:=Vals.one rv;obtain⟨its,rv',pl,hz⟩:=I.list hl;obtain⟨as,rd⟩:=hd.reads I ru;obtain⟨bs,ra⟩:=bp.reads I hr rv';have len:its.length=ds.length:=ReadsAll.length _ _ _ ra;have at':∀ (m:Nat) (v:Value),its[m]? = some v->∃ e cs,ds[m]? = some e/\Reads s.heap v e cs/\CV s.heap v=e:=λm v hv=>by obtain⟨e,cs,h1,h2⟩:=v_ ra m v hv;exact⟨e,cs,h1,h2,Eg h2 (hS e (rp h1)).1⟩
 have jl:j<ds.length:=(pT.mp ej).1;have jl':j<its.toArray.size:=by rw[i5];lia
 have zs:sizeLine<2 ^ 62:=by rw[sizeLine_eq];decide
 have hlen:=rv'.length;obtain⟨⟨cls,dd,data,sl⟩,ho,hc,n,I0⟩:=id pl.isList;simp only at hc I0;subst hc I0;refine call_meets F.slot_list_index ⟨_,ho,rfl⟩ F.entry_list_index (F.args_list_index_2 _ _) (list_indexAt l its.toArray n dd sl u (λv=>PyData.eqv (CV s.heap v) d) j jl' (by lia) ?_ λm hm h'=>?_) ⟨ho,λv hv=>?_,⟨.int j,H,I.tok _,⟨_,rfl⟩,q⟩⟩
 ·obtain⟨e',cs,h1,_,h3⟩:=at' j its.toArray[j] (by simp at jl' ⊢);rw[h3];rw[ej] at h1;cases h1;exact eq
 ·obtain⟨e',cs,h1,_,h3⟩:=at' m its.toArray[m] (by simp at hm ⊢);rw[h3];exact Dp m e' h' h1
 ·obtain⟨m,hm⟩:=T8.mp (show v∈its by simpa using hv);obtain⟨e',cs,h1,h2,h3⟩:=at' m v hm;rw[h3];have:=hS e' (rp h1);exact eqAt_reads e' d X.A.in1 s _ _ _ _ h2 rd this.1 ld (by show X.A.units+1+_<cLine;lia)
end
end L2
namespace L2.Q
open PySem PySem.Spec PyProof.Rows PySem.SeqAt
end L2.Q
namespace L2.Q.R
open PySem PySem.Spec PyProof.Rows L2.Q PySem.SeqAt
end L2.Q.R
namespace L2
open PySem PySem.Spec PyProof.Rows PySem.SeqAt
end L2
namespace L2.Q
open PySem PySem.Spec PyProof.Rows PySem.SeqAt
section
variable {X:Cx}{K:PySem.W.Frag}
def xn(to te:WE):WE:=λρ Q=>to ρ λ_ x=>match x with
 |.list xs=>te ρ λ_ y=>cv 12 (.list xs)=true/\cv 12 y=true/\∃ j:Nat,(∃ z,xs[j]? = some z/\kg z y=true)/\(∀ (i:Nat) z,i<j->xs[i]? = some z->kg z y=false)/\Q .sh (.int j)
 |_=>False
theorem Hj{o e:Expr}{to te:WE}{apos cw:Pos}(hu:X.A.units+64<cLine)(ho:QE X K o to)(he:QE X K e te)(hK:X.K=K:=by rfl) (tN:attributeBase o "index" X.env (eval o X.env)=eval o X.env:=by rfl) (pe:((backTo cw (starEach [e] X.env)).all (λx=>!x.1) && (backToKw cw (keywordEach [] X.env)).all (λx=>x.1.isSome)
   && decide ([e].length+([]:List Keyword).length+(if ([]:List Keyword).isEmpty then 0 else 1)<30))=true:=by rfl)
  (hline:(apos.endLine == cw.line)=true:=by rfl) (pS:starEach (e :: []) X.env=(false,eval e X.env) :: starEach [] X.env:=by rfl) (tP:(backTo cw (starEach [] X.env)).any (·.1)=false:=by rfl) :
  QE X K (.Call (.Attribute o "index" apos) [e] [] cw) (xn to te):=by
 subst hK;refine PE.imp (HG PySem.F.plainAttrs_list PySem.F.slot_list_index PySem.F.type_list_index (Du hu) ho (mG he rU pS) tN pe hline pS tP) λσ H Qv hx=>iq hx λHs ρ ag Q sr h f=>?_;walk_at"a";walk_at"B"
 cases r with
 |list hz s rs =>
  refine⟨.inl ⟨rfl,_,s⟩,ay,ρ,ag,_,sr.grow g1,q1,λy H2 aI m2 x2 fN g2 r2 f2 q2=>?_⟩;obtain⟨o1,o2,j,⟨z,ez,eq⟩,Dp,q⟩:=q2;have rr:=(r1.grow g2).rep g2.wf
  cases rr with
  |list Ts s' rs' =>
   have l2:=qg 12 _ o2;have o1':∀ d∈_,cv 11 d=true:=xt.mp (show List.all _ (cv 11)=true from o1);refine⟨_,_,_,_,_,j,rfl,rfl,s',Rep.IE.2 rs' 11 o1',(r2.rep g2.wf).l2 o2,λe he=>?_,l2.1,⟨z.py,?_,eq⟩,λm e hm he=>?_,Fin.sh (Fin.after f (g1.trans g2)) g2.wf (.int _) q⟩
   ·rw[vK] at he;obtain⟨d,hd,rfl⟩:=de.mp he;have:=qg 11 d (o1' d hd);exact⟨this.1,by lia⟩
   ·rw[vK,lI,ez];rfl
   ·rw[vK,lI] at he;obtain⟨d,hd,rfl⟩:=RL.mp he;exact Dp m d hm hd
 |_=>exact q1.elim
end
end L2.Q
namespace L2.Q.R
open PySem PySem.Spec PyProof.Rows L2.Q PySem.SeqAt
section
variable {Q:Md->L2.Q.D->Prop}{x y:L2.Q.D}{xs:List L2.Q.D}{PD te:WE}{ρ:Env}
theorem KZ:xn PD te ρ Q=PD ρ λ_ x=>bP x (f:=λx=>yy x λxs=>te ρ λ_ y=>cv 12 (.list xs)=true/\cv 12 y=true/\∃ j:Nat,(∃ z,xs[j]? = some z/\kg z y=true)/\(∀ (i:Nat) z,i<j->xs[i]? = some z->kg z y=false)/\Q .sh (.int j)) ⟨⟩:=by unfold xn bP yy;rfl
end
end L2.Q.R
namespace L2
open PySem PySem.Spec PyProof.Rows PySem.Calls
section
variable {X:Cx}
theorem Ci:HC X "str.startswith" (λx xs H Q=>∃ z y,x=.str z/\xs=[.str y]/\Q (.bl (Txt.startswith z y)) H):=by intro pins s σ H x vs v us Q I rx rv h;obtain⟨z,y,rfl,rfl,q⟩:=h;obtain⟨t,rfl⟩:=rx;obtain⟨u,rfl,ru⟩:=Vals.one rv;obtain⟨t',rfl⟩:=ru;exact SC.startswith ⟨.bl _,H,I,rfl,q⟩
end
end L2
namespace PySem
open Sem (wp)
open Builtin Builtin.Str
theorem Ay{prog:Program}{w:World}{A:Around}{E:Value->Shared->Prop}{s:Shared}{x y:Str}{t u:Tok}{Q:Value->Shared->Prop}(hy:(y.length == 0)=false)(hsz:x.length<=sizeLine)(SN:(partsBetween x (occurrences x y 0 x.length (x.length+1)) y.length).length<=sizeLine)(hq:∀ l k,l.map (·.1)=Txt.split x y->Q (.ref s.heap.objs.size) { s with heap:=s.heap.push { cls:=.type "list",data:=.seq (strValues l).toArray },toks:=k }) :
  wpAny (model prog w) A (call (.builtin "str.split") [.str x t,.str y u]) Q E s:=by
 cases h1:(decide (x.length<y.length) || decide (Builtin.Str.strKind x<Builtin.Str.strKind y))
 ·cases hf:(occurrences x y 0 x.length (x.length+1)).isEmpty
  ·refine call_meets F.slot_str_split (typeIs_str _ _ _) F.entry_str_split (F.args_str_split_2 _ _) (meets_str_split_sep x y t u h1 hy hf hsz SN) ?_;show wants Q E _ { s with toks:=_,heap:=s.heap.push { cls:=.type "list",data:=.seq (strsFrom s.toks (partsBetween x (occurrences x y 0 x.length (x.length+1)) y.length)).toArray } };rw[strsFrom_eq];exact hq (numbered s.toks _) _ ((numbered_texts _ _).trans ((if_neg (ne_true_of_eq_false h1)).trans (if_neg (ne_true_of_eq_false hf))).symm)
  ·exact call_meets F.slot_str_split (typeIs_str _ _ _) F.entry_str_split (F.args_str_split_2 _ _) (meets_str_split_not_found x y t u h1 hy hf) (hq [(x,t)] s.toks ((if_neg (ne_true_of_eq_false h1)).trans (if_pos hf)).symm)
 ·exact call_meets F.slot_str_split (typeIs_str _ _ _) F.entry_str_split (F.args_str_split_2 _ _) (meets_str_split_cannot_occur x y t u h1) (hq [(x,t)] s.toks (if_pos h1).symm)
end PySem
namespace PySem
open Builtin Builtin.Str StrLaws
theorem vh(x y:Str)(hi:Nat)(hw:1<=y.length):∀ (cs:List Nat) (a f:Nat),ChainG x y hi a cs f->cs=[]\/cs.length+a<=hi
 |[],_,_,_=>.inl rfl
 |d :: r,a,f,h=>by
  have h1:=h.1;have h2:=h.2.1.1;rcases vh x y hi hw r _ f h.2.2.2 with e|e
  ·subst e;right;simp;lia
  ·right;simp only[oP];lia
theorem uM(x:Str)(w:Nat):∀ (cs:List Nat) (a:Nat),(partsFrom x w a cs).length=cs.length+1
 |[],_=>rfl
 |d :: r,a=>by show(partsFrom x w _ r).length+1=_;rw[uM x w r];rfl
theorem nF(x y:Str)(hw:1<=y.length):(partsBetween x (occurrences x y 0 x.length (x.length+1)) y.length).length<=x.length+1:=by
 obtain⟨f,hG,_⟩:=occ_tight x y hw;rw[partsBetween_eq,uM];rcases vh x y x.length hw _ 0 f hG with e|e
 ·rw[e];simp
 ·lia
theorem tV(x y:Str)(hw:1<=y.length):(Txt.split x y).length<=x.length+1:=by
 unfold Txt.split;split
 ·simp
 ·split
  ·simp
  ·exact nF x y hw
theorem Cz{prog:Program}{w:World}{A:Around}{E:Value->Shared->Prop}{s:Shared}{x y:Str}{t u:Tok}{Q:Value->Shared->Prop}(hy:(y.length == 0)=false)(hx:x.length<=sizeLine)(hq:∀ ta tb tc k,Q (.ref s.heap.objs.size) { s with heap:=s.heap.push { cls:=.type "tuple",data:=.seq [.str (Txt.partition x y).1 ta,.str (Txt.partition x y).2.1 tb,.str (Txt.partition x y).2.2 tc].toArray },toks:=k }) :
  wpAny (model prog w) A (call (.builtin "str.partition") [.str x t,.str y u]) Q E s:=by
 refine call_meets F.slot_str_partition (typeIs_str _ _ _) F.entry_str_partition (F.args_str_partition_2 _ _) (meets_str_partition x y t u hy hx) ?_;unfold Txt.partition at hq
 cases e:occurrences x y 0 x.length 1 with
 |nil=>rw[e] at hq;exact hq _ _ _ _
 |cons i r=>rw[e] at hq;exact hq _ _ _ _
end PySem
namespace L2
open PySem PySem.Spec PyProof.Rows PySem.Calls
section
variable {X:Cx}
theorem ud:∀ l:List (Str × Tok),Vals ((l.map (·.1)).map V.str) (PySem.strValues l)
 |[]=>.nil
 |p :: l=>.cons ⟨p.2,rfl⟩ (ud l)
theorem CW:HC X "str.split" (λx xs H Q=>∃ z y,x=.str z/\xs=[.str y]/\1<=y.length/\z.length<=1000000/\∀ p,H p=none->Q (.ref p) (upd H p (.lst ((Txt.split z y).map V.str)))):=by intro pins s σ H x vs v us Q I rx rv h;obtain⟨z,y,rfl,rfl,hy,hz,q⟩:=h;obtain⟨t,rfl⟩:=rx;obtain⟨u,rfl,ru⟩:=Vals.one rv;obtain⟨t',rfl⟩:=ru;have hb:=nF z y hy;refine Ay (beq_eq_false_iff_ne.mpr (by lia)) (fP hz (by decide)) (fP hb (by rw[sizeLine_eq];lia)) λl k el=>?_;have I2:=I.MG (t':=k) (ud l) (by rw[cE,el];exact fP (tV z y hy) (by rw[sizeLine_eq];lia));rw[el] at I2;exact⟨.ref _,_,I2,rfl,q _ I.fresh⟩
theorem HJ:HC X "str.partition" (λx xs H Q=>∃ z y,x=.str z/\xs=[.str y]/\1<=y.length/\z.length<=1000000/\∀ p,H p=none->Q (.ref p) (upd H p (.tup [.str (Txt.partition z y).1,.str (Txt.partition z y).2.1,.str (Txt.partition z y).2.2]))):=by
 intro pins s σ H x vs v us Q I rx rv h;obtain⟨z,y,rfl,rfl,hy,hz,q⟩:=h;walk_at"K";obtain⟨u,rfl,ru⟩:=Vals.one rv;obtain⟨t',rfl⟩:=ru;refine Cz (beq_eq_false_iff_ne.mpr (by lia)) (fP hz (by decide)) λta tb tc k=>?_;have I2:Inv X pins σ (upd H s.heap.objs.size (.tup [.str (Txt.partition z y).1,.str (Txt.partition z y).2.1,.str (Txt.partition z y).2.2])) { s with heap:=s.heap.push { cls:=.type "tuple",data:=.seq [.str (Txt.partition z y).1 ta,.str (Txt.partition z y).2.1 tb,.str (Txt.partition z y).2.2 tc].toArray },toks:=k } :=
  I.laid (t':=k) (λb o e=>dA _ e) (bE _) ⟨by show 3<=sizeLine;decide,_,.cons ⟨ta,rfl⟩ (.cons ⟨tb,rfl⟩ (.cons ⟨tc,rfl⟩ .nil)),IsTup.new _ _⟩
 exact⟨.ref _,_,I2,rfl,q _ I.fresh⟩
theorem gM:i9 X (.type "int") (λxs H Q=>∃ z n,xs=[.str z]/\z.length<=640/\intText? z=some n/\Q (.int n) H):=by intro pins s σ H xs us Q I r h;obtain⟨z,n,rfl,hl,hn,q⟩:=h;obtain⟨u,rfl,t,rfl⟩:=vals1 r;exact PySem.W.KIN.call_text hn hl ⟨.int n,H,I.tok _,⟨_,rfl⟩,q⟩
theorem fZ:i9 X (.type "str") (λxs H Q=>∃ n,xs=[.int n]/\n.natAbs.log2<1920/\Q (.str (toString n)) H):=by intro pins s σ H xs us Q I r h;obtain⟨n,rfl,hl,q⟩:=h;obtain⟨u,rfl,t,rfl⟩:=vals1 r;exact PySem.P.str_of_int hl ⟨.str (toString n),H,I.tok _,⟨_,rfl⟩,q⟩
end
end L2
namespace L2.Q
open PySem PySem.Spec PyProof.Rows
theorem t_{y p:Str}:∀ {zs:List Str},p∈zs->p.length<=(Str.join y zs).length
 |[],h=>nomatch h
 |[x],h=>by rw[mw.mp h];exact bE _
 |x :: z :: r,h=>by
  show _<=(x++y++Str.join y (z :: r)).length;rw[au,au];rcases dc.mp h with rfl|h
  ·lia
  ·have:=t_ (y:=y) h;lia
theorem jN{x y p:Str}(h:p∈Txt.split x y):p.length<=x.length:=by have:=t_ (y:=y) h;rwa[StrLaws.join_split] at this
theorem uv{K:PySem.W.Frag}{H:Hp}:∀ {l:List Str},(∀ x∈l,x.length<=sizeLine)->bp K H (l.map .str) (l.map V.str)
 |[],_=>.nil
 |x :: l,h=>.cons (.str (h x dv)) (uv λy hy=>h y (cK _ hy))
theorem qu:∀ l:List Str,cS (l.map D.str)=true
 |[]=>rfl
 |x :: l=>by simp[cS,qu l,D.flat]
def vq(to te:WE):WE:=λρ Q=>to ρ λ_ x=>match x with
 |.str z=>te ρ λ_ y=>match y with
  |.str s=>Q .sh (.bl (Txt.startswith z s))
  |_=>False
 |_=>False
def oh(to te:WE):WE:=λρ Q=>to ρ λ_ x=>match x with
 |.str z=>te ρ λ_ y=>match y with
  |.str s=>1<=s.length/\z.length<=1000000/\Q (.ow true) (.list ((Txt.split z s).map .str))
  |_=>False
 |_=>False
def Ai(to te:WE):WE:=λρ Q=>to ρ λ_ x=>match x with
 |.str z=>te ρ λ_ y=>match y with
  |.str s=>1<=s.length/\z.length<=1000000/\Q .sh (.tup [.str (Txt.partition z s).1,.str (Txt.partition z s).2.1,.str (Txt.partition z s).2.2])
  |_=>False
 |_=>False
def wK:W1:=λ_ x Q=>match x with
 |.str z=>z.length<=640/\∃ n,intText? z=some n/\Q .sh (.int n)
 |_=>False
section
variable {X:Cx}{K:PySem.W.Frag}{o e:Expr}{to te:WE}{apos cw:Pos}
theorem Ec (ho:QE X K o to) (he:QE X K e te) (tN:attributeBase o "startswith" X.env (eval o X.env)=eval o X.env:=by rfl) (pe:((backTo cw (starEach [e] X.env)).all (λx=>!x.1) && (backToKw cw (keywordEach [] X.env)).all (λx=>x.1.isSome) && decide ([e].length+([]:List Keyword).length+(if ([]:List Keyword).isEmpty then 0 else 1)<30))=true:=by rfl) (hline:(apos.endLine == cw.line)=true:=by rfl) (pS:starEach (e :: []) X.env=(false,eval e X.env) :: starEach [] X.env:=by rfl) (tP:(backTo cw (starEach [] X.env)).any (·.1)=false:=by rfl) :
  QE X K (.Call (.Attribute o "startswith" apos) [e] [] cw) (vq to te):=by
 refine PE.imp (HG PySem.F.plainAttrs_str PySem.F.slot_str_startswith PySem.F.type_str_startswith Ci ho (mG he rU pS) tN pe hline pS tP) λσ H Qv hx=>iq hx λHs ρ ag Q sr h f=>?_;walk_at"a";walk_at"B"
 cases r with
 |str hz =>
  walk_at"m";have rr:=r2.rep g2.wf
  cases rr with
  |str hz2=>exact⟨_,_,rfl,rfl,Fin.sh (Fin.after f (g1.trans g2)) g2.wf (.bl _) q2⟩
  |_=>exact q2.elim
 |_=>exact q1.elim
theorem nZ (ho:QE X K o to) (he:QE X K e te) (tN:attributeBase o "split" X.env (eval o X.env)=eval o X.env:=by rfl) (pe:((backTo cw (starEach [e] X.env)).all (λx=>!x.1) && (backToKw cw (keywordEach [] X.env)).all (λx=>x.1.isSome) && decide ([e].length+([]:List Keyword).length+(if ([]:List Keyword).isEmpty then 0 else 1)<30))=true:=by rfl) (hline:(apos.endLine == cw.line)=true:=by rfl) (pS:starEach (e :: []) X.env=(false,eval e X.env) :: starEach [] X.env:=by rfl) (tP:(backTo cw (starEach [] X.env)).any (·.1)=false:=by rfl) :
  QE X K (.Call (.Attribute o "split" apos) [e] [] cw) (oh to te):=by
 refine PE.imp (HG PySem.F.plainAttrs_str PySem.F.slot_str_split PySem.F.type_str_split CW ho (mG he rU pS) tN pe hline pS tP) λσ H Qv hx=>iq hx λHs ρ ag Q sr h f=>?_;walk_at"a";walk_at"B"
 cases r with
 |str hz =>
  walk_at"m";have rr:=r2.rep g2.wf
  cases rr with
  |str hz2 =>
   obtain⟨h1,h2,q⟩:=q2;refine⟨_,_,rfl,rfl,h1,h2,Fin.lst (Fin.after f (g1.trans g2)) g2.wf ?_ (uv λp hp=>?_) (qu _) q⟩
   ·rw[cE];exact fP (tV _ _ h1) (by rw[sizeLine_eq];lia)
   ·exact fP (jN hp) hz
  |_=>exact q2.elim
 |_=>exact q1.elim
theorem G3 (ho:QE X K o to) (he:QE X K e te) (tN:attributeBase o "partition" X.env (eval o X.env)=eval o X.env:=by rfl) (pe:((backTo cw (starEach [e] X.env)).all (λx=>!x.1) && (backToKw cw (keywordEach [] X.env)).all (λx=>x.1.isSome) && decide ([e].length+([]:List Keyword).length+(if ([]:List Keyword).isEmpty then 0 else 1)<30))=true:=by rfl) (hline:(apos.endLine == cw.line)=true:=by rfl) (pS:starEach (e :: []) X.env=(false,eval e X.env) :: starEach [] X.env:=by rfl) (tP:(backTo cw (starEach [] X.env)).any (·.1)=false:=by rfl) :
  QE X K (.Call (.Attribute o "partition" apos) [e] [] cw) (Ai to te):=by
 refine PE.imp (HG PySem.F.plainAttrs_str PySem.F.slot_str_partition PySem.F.type_str_partition HJ ho (mG he rU pS) tN pe hline pS tP) λσ H Qv hx=>iq hx λHs ρ ag Q sr h f=>?_;walk_at"a";walk_at"B"
 cases r with
 |str hz =>
  walk_at"m";have rr:=r2.rep g2.wf
  cases rr with
  |str hz2 =>obtain⟨h1,h2,q⟩:=q2;obtain⟨l1,l2,l3⟩:=PyProof.Rows.fact_partition _ _;exact⟨_,_,rfl,rfl,h1,h2,Fin.tup (Fin.after f (g1.trans g2)) g2.wf (by show 3<=sizeLine;decide) (.cons (.str (fP l1 hz)) (.cons (.str (fP l2 hz)) (.cons (.str (fP l3 hz)) .nil))) rfl q⟩
  |_=>exact q2.elim
 |_=>exact q1.elim
theorem nR:Bi K (λxs H Q=>∃ z n,xs=[.str z]/\z.length<=640/\intText? z=some n/\Q (.int n) H) wK:=by
 walk_at"s";walk_at"ad"
 cases r1 with
 |str hz =>obtain⟨h1,n,h2,q⟩:=h;exact⟨_,n,rfl,h1,h2,f.sh w (.int _) q⟩
 |_=>exact h.elim
def tY:W1:=λ_ x Q=>match x with
 |.int i=>i.natAbs.log2<1920/\Q .sh (.str (toString i))
 |_=>False
theorem jZ:Bi K (λxs H Q=>∃ n,xs=[.int n]/\n.natAbs.log2<1920/\Q (.str (toString n)) H) tY:=by
 walk_at"s";walk_at"ad"
 cases r1 with
 |int i=>exact⟨i,rfl,h.1,f.sh w (.str (int_text_fits h.1)) h.2⟩
 |_=>exact h.elim
end
end L2.Q
namespace L2.Q.R
open PySem PySem.Spec PyProof.Rows L2.Q
section
variable {ρ:L2.Q.Env}{to te:WE}{m:Md}{Q:Md->L2.Q.D->Prop}
theorem Kp:vq to te ρ Q=to ρ λ_ x=>bP x (f:=λx=>yv x λz=>te ρ λ_ y=>bP y (f:=λy=>yv y λs=>Q .sh (.bl (Txt.startswith z s))) ⟨⟩) ⟨⟩:=rfl
theorem Mv:oh to te ρ Q=to ρ λ_ x=>bP x (f:=λx=>yv x λz=>te ρ λ_ y=>bP y (f:=λy=>yv y λs=>1<=s.length/\z.length<=1000000/\Q (.ow true) (.list ((Txt.split z s).map .str))) ⟨⟩) ⟨⟩:=rfl
theorem K1:Ai to te ρ Q=to ρ λ_ x=>bP x (f:=λx=>yv x λz=>te ρ λ_ y=>bP y (f:=λy=>yv y λs=>1<=s.length/\z.length<=1000000/\Q .sh (.tup [.str (Txt.partition z s).1,.str (Txt.partition z s).2.1,.str (Txt.partition z s).2.2])) ⟨⟩) ⟨⟩:=rfl
theorem Ph{i:Int}:tY m (.int i) Q=(i.natAbs.log2<1920/\Q .sh (.str (toString i))):=rfl
theorem NQ{z:Str}:wK m (.str z) Q=(z.length<=640/\∃ n,intText? z=some n/\Q .sh (.int n)):=rfl
end
end L2.Q.R
namespace L2.Q
open PySem PySem.Spec PyProof.Rows PySem.StrLaws PySem.Builtin.Str
theorem xj(y a b:Str)(r:List Str):sg (Str.join y (a :: b :: r))=sg a++(sg y++sg (Str.join y (b :: r))):=by show sg (a++y++Str.join y (b :: r))=_;rw[iG,iG,vT]
theorem CP(x y:Str):Txt.split x y≠[]:=by
 unfold Txt.split;split
 ·simp
 ·split
  ·simp
  ·rw[partsBetween_eq];obtain⟨p,r,e⟩:=partsFrom_ne x y.length 0 (occurrences x y 0 x.length (x.length+1));rw[e];simp
theorem HH{c:Nat}{a b:Str}(h:c∉sg a):Txt.partition (a ++ ⟨#[c]⟩++b) ⟨#[c]⟩=(a,⟨#[c]⟩,b):=by
 have es:sg (a ++ ⟨#[c]⟩++b)=sg a++c :: sg b:=by rw[iG,iG,vT];rfl
 have V8:∀ k,At (a ++ ⟨#[c]⟩++b) ⟨#[c]⟩ (a ++ ⟨#[c]⟩++b).length k↔(sg a++c :: sg b)[k]? = some c:=λk=>by rw[<- es];exact subAt_one _ c k
 unfold Txt.partition;rcases occ_head (a ++ ⟨#[c]⟩++b) ⟨#[c]⟩ 1 (bE 1) with⟨_,hn⟩|⟨i,r,h0,hi,hn⟩
 ·exact absurd ((V8 (sg a).length).mpr (by simp)) (hn _)
 ·rw[h0];have hi:=(V8 i).mp hi;have ei:i=(sg a).length:=by
   rcases Nat.lt_trichotomy i (sg a).length with z|z|z
   ·rw[BQ z] at hi;exact absurd (rp hi) h
   ·exact z
   ·exact absurd ((V8 (sg a).length).mpr (by simp)) (hn _ z)
  subst ei;have e1:strSub (a ++ ⟨#[c]⟩++b) 0 (sg a).length=a:=kI (by
   rw[strSub_toList];show List.take _ (List.drop 0 (sg (a ++ ⟨#[c]⟩++b)))=_;rw[es];simp[sg])
  have e2:strSub (a ++ ⟨#[c]⟩++b) ((sg a).length+(⟨#[c]⟩:Str).length) (a ++ ⟨#[c]⟩++b).length=b:=kI (by
   rw[strSub_toList];show List.take _ (List.drop _ (sg (a ++ ⟨#[c]⟩++b)))=_;rw[cz (a ++ ⟨#[c]⟩++b),es];show List.take _ (List.drop ((sg a).length+1) _)=_;rw[List.drop_append,List.drop_eq_nil_of_le (by lia),List.nil_append,show(sg a).length+1-(sg a).length=1 by lia];show List.take _ (sg b)=_;refine FL ?_;rw[kK,oP];show _<=_-((sg a).length+1)
   lia)
  show(strSub (a ++ ⟨#[c]⟩++b) 0 (sg a).length,_,strSub (a ++ ⟨#[c]⟩++b) ((sg a).length+(⟨#[c]⟩:Str).length) (a ++ ⟨#[c]⟩++b).length)=_;rw[e1,e2]
end L2.Q
namespace L2
open PySem PySem.Spec PyProof.Rows
end L2
namespace L2.Q
open PySem PySem.Spec PyProof.Rows
def P6(m:Md)(y:D)(k:List D->Prop):Prop:=match m,y with
 |.ow true,.list ys=>k ys
 |_,_=>False
theorem JH{m:Md}{y:D}{k:List D->Prop}(h:P6 m y k):∃ ys,m=.ow true/\y=.list ys/\k ys:=by
 unfold P6 at h;split at h
 ·exact⟨_,rfl,rfl,h⟩
 ·exact h.elim
section
variable {X:Cx}{K:PySem.W.Frag}{L:Str->Hp->Prop}{a b:Expr}{tb:WE}{pos pos' apos:Pos}{i:Nat}{x:Str}
theorem bS.inL{Hs H:Hp}{xs:List D}{v:V}{As:List Addr}(r:bS K Hs H true (.list xs) v As):∃ a vs A,v=.ref a/\As=a :: A/\vs.length<=sizeLine/\H a=some (.lst vs)/\aH K Hs H true xs vs A:=by
 cases r with
 |sh hf _=>exact absurd (hf rfl) (by simp[D.flat])
 |list z e rs=>exact⟨_,_,_,rfl,rfl,z,e,rs⟩
def qF(i:Nat)(tb:WE):WS:=λE ρ=>D2 ρ[i]? λxs=>tb ρ λm y=>P6 m y λys=>xs.length+ys.length<=sizeLine/\E.nx (ρ.set i (some (.ow true (.list (xs++ys)))))
theorem lY(hN:X.N.Nodup)(hi:X.N[i]? = some x)(hx:Loc X.env.scope x)(ha:PE X a (AQ i))(hb:QE X K b tb)(hK:X.K=K:=by rfl)(hs:swapsWith (.BinOp a .Add b pos) (some (.Name x pos')) apos.line X.env=pure false:=by rfl) (hf:X.fn x=true\/X.env.scope.names.lookup x=some .local:=by first|exact .inl rfl|exact .inr rfl|assumption):QS X K L (.Assign [.Name x pos'] (.BinOp a .Add b pos) apos) (qF i tb):=by
 subst hK;refine PS.imp (Ux hN hi hx (bB' zU ha hb) hs hf) λD σ H hx=>iM hx λHs ρ ag E sr h k1 k2 k3 k4=>?_;obtain⟨xs,ei,h⟩:=Ii h;obtain⟨v,As,cc,ev,r,sA,sT,dj,srn⟩:=SR.take i sr.sr ei sr.qE;obtain⟨a0,vs,A,rfl,rfl,z,ea,rs⟩:=r.inL;refine⟨_,ev,Hs,ρ,ag,_,sr,h,λu H1 ay m y Bs g1 r1 f1 q1=>?_⟩;obtain⟨ys,rfl,rfl,hz,q⟩:=JH q1;obtain⟨c0,ws,B,rfl,rfl,z2,ec,PC⟩:=r1.1.inL;have l1:=rs.length;have l2:=PC.length;refine⟨vs,ws,.inl (.inl (g1.all _ _ ea)),.inl (.inl ec),by lia,λp hp=>?_⟩;have g2:=IG (o:=.lst (vs++ws)) g1.wf hp (λ_ z=>nomatch z);have g:=g1.trans g2;have sn:dE X.K Hs (ρ.set i none) σ H cc:=⟨srn,sr.wf,sT.nodup sr.qE,λx hx=>sr.own x (sT.subset hx)⟩
 have s3:=sn.grow g;obtain⟨nA,VC⟩:=ny.mp (sA.nodup sr.qE);obtain⟨nB,ndB⟩:=ny.mp f1.1;have hA:∀ w∈A,H w≠none:=λw hw=>(rs.own w hw).ne;have hB:∀ w∈B,H1 w≠none:=λw hw=>(PC.own w hw).ne;have fB:∀ w∈B,ay w=none/\H w=none:=λw hw=>f1.2 w (cK _ hw);have p1:∀ w,H1 w≠none->w≠p:=λw hw e=>hw (e ▸ hp);have hA1:∀ w∈A,H1 w≠none:=λw hw=>by obtain⟨o,e⟩:=RK.mp (hA w hw);rw[g1.all _ _ e];exact λz=>nomatch z
 have rr:bS X.K ay (upd H1 p (.lst (vs++ws))) true (.list (xs++ys)) (.ref p) (p :: (A++B)) :=
  .list (by rw[kK];lia) iL (((rs.grow g1.sh g1.all).fA (aT.refl _) λw hw=>fR (p1 w (hA1 w hw))).append (PC.fA (aT.refl _) λw hw=>fR (p1 w (hB w hw))))
 obtain⟨fq,s4⟩:=s3.set i (m:=.ow true) (sl:=.ow true (.list (xs++ys))) ⟨rr,K2 _ _⟩ (ny.mpr ⟨λw=>(eI.mp w).elim (λw=>p1 p (hA1 p w) rfl) λw=>p1 p (hB p w) rfl,hJ.mpr ⟨VC,ndB,λw h1 y h2 e=>hA w h1 (e ▸ (fB y h2).2)⟩⟩) (λw hw=>by
  rcases dc.mp hw with rfl|hw
  ·exact⟨g1.wf.sub.free hp,λt=>(by
    have:=(sr.sr.own w (sT.subset t)).ne;obtain⟨o,e⟩:=RK.mp this;rw[g1.all _ _ e] at hp;cases hp)⟩
  ·rcases eI.mp hw with hw|hw
   ·exact⟨g1.nK (sr.own w (sA.subset (cK _ hw))) (hA w hw),dj w (cK _ hw)⟩
   ·exact⟨(fB w hw).1,λt=>(sr.sr.own w (sT.subset t)).ne (fB w hw).2⟩) rfl
 rw[List.set_set] at s4;exact k1 _ _ ay _ fq g.sh s4 q
end
end L2.Q
namespace L2.Q.R
open PySem PySem.Spec PyProof.Rows L2.Q
section
variable {tb:WE}{ρ:L2.Q.Env}{E:n8}{i:Nat}
theorem lU'{ys:List L2.Q.D}{k:List L2.Q.D->Prop}:P6 (.ow true) (.list ys) k=k ys:=rfl
theorem Mq:qF i tb E ρ=bP ρ[i]? (f:=λo=>D2 o λxs=>tb ρ λm y=>bP (m,y) (f:=λp=>P6 p.1 p.2 λys=>xs.length+ys.length<=sizeLine/\E.nx (ρ.set i (some (.ow true (.list (xs++ys)))))) ⟨⟩) ⟨⟩:=rfl
end
end L2.Q.R
namespace L2.Q
open PySem PySem.Spec PyProof.Rows PySem.W
def TJ(X:Cx)(scope:Scope)(C:Addr):Value->Shared->Prop:=notedBy (model X.prog X.w) X.A (compEnvC scope (kQ X.env scope.names []) C X.env) λe s'=>∃ m,s'.heap.Ns C m/\∀ h',Heap.SameBut C s'.heap h'->∀ ce:PySem.Env,ce.locals=C ->
 wpAny (model X.prog X.w) X.A (PySem.passOn "comprehension.variables-let-go" e ce:Sem Value) (λ_ _=>False) X.xe { s' with heap:=h' }
def bh(X:Cx)(scope:Scope)(C:Addr)(N:List Str)(fp:List Addr)(cf:Shared)(cq:Hp):Cx:={ aJ X scope C N fp cf cq with xe:=TJ X scope C }
def xq(X:Cx)(C:Addr)(fp:List Addr)(cf:Shared)(cq:Hp):Prop:=∃ pins σ,Inv X pins σ cq cf/\(∀ b∈fp,kN X pins cq b)/\C=cf.heap.objs.size
section
variable {P:Program}{w:World}{K:PySem.W.Frag}{mg:Str->Option Value}{base:Heap}{N N':List Str}{qual:Str}{scope sc:Scope}{f:Addr}{cd:Value}{A:Around}{outer:List PySem.Env}{df:Shared}{qf:Hp}{E:XK}{rn:List Str}
theorem MF{C:Addr}{fp:List Addr}{cf:Shared}{cq:Hp}(S:xq (kD (fT P w mg rn) P w K mg base N qual scope f cd A outer df qf E) C fp cf cq):Passes (fT P w mg rn) (bh (kD (fT P w mg rn) P w K mg base N qual scope f cd A outer df qf E) sc C N' fp cf cq) E:=by
 intro lS τ H s e s' I hx;obtain⟨pins,σ,I3,f3,eC⟩:=S;generalize hX:kD (fT P w mg rn) P w K mg base N qual scope f cd A outer df qf E=X at *
 obtain⟨a,n,C',a0,H',B,rfl,hn,os,bare,un,aS,vw,cov,fr,hE⟩:=hx;have J:Inv X pins σ H s:=Inv.R0 (ch:=fp) I3 I.os I.base I.aS I.bare λb hb=>by obtain⟨_,f1,_,EK,f4,f5⟩:=f3 b hb;exact⟨EK,f1,f4,f5⟩
 have kC:=I3.AR (b:=C) (H':=H) (by rw[eC];exact bE _) I.free;have hV:X.stack=X.env :: X.outer:=by subst hX;rfl
 have oI:X.env.frame=some X.env.locals:=by subst hX;rfl
 have hex:X.ex=[]:=by subst hX;rfl
 have hs:∀ b,b∈dz X.stack↔b=X.env.locals\/b∈X.fs:=λb=>by rw[hV];unfold dz;rw[vS,oI];exact dc
 have nC:C∉dz X.stack:=λz=>((hs C).mp z).elim kC.2.1 kC.2.2.1;have sC:X.df.heap.get? C=none:=by
  cases q:X.df.heap.get? C with
  |none=>rfl
  |some o=>exact absurd (lP (da q) (kC.2.2.2.1.elim (λz=>by rw[hex] at z;cases z) id)) (oi _)
 have sL:X.df.heap.get? X.env.locals=none:=by
  cases q:X.df.heap.get? X.env.locals with
  |none=>rfl
  |some o=>exact absurd (lP (da q) J.ok.above) (oi _)
 obtain⟨m,ns,_⟩:=I.loc;obtain⟨oC,es,ep,gC,dC,rC⟩:=ns;have gC':s'.heap.get? C=some oC:=un.keep C oC gC I.free nC (by simp);have hC':H' C=none:=un.free C oC gC I.free (by simp);have ns':s'.heap.Ns C m:=⟨oC,es,ep,gC',dC,rC⟩
 obtain⟨u0,c0⟩:=xh.up (X:=X) (h':=s'.heap) hV oI hex J un cov ⟨λb o e _ _=>e,λb o e _=>⟨o.slots,e⟩⟩ fr (by subst hX;exact aS);show wpAny (model X.prog X.w) X.A (noteFrame (.ref a) (compEnvC sc (kQ X.env sc.names []) C X.env)) _ _ s';have en:noteFrame (.ref a) (compEnvC sc (kQ X.env sc.names []) C X.env)=noteFrame (.ref a) X.env:=by unfold noteFrame PySem.frameOf;rfl
 rw[en];have vw:FC B (X.env :: X.outer) a (.ref C') a0 s'.heap:=hV ▸ vw;have hA:X.A.frames=some (X.env :: X.outer):=by rw[<- hV];exact J.ok.frames
 refine FQ hA oI vw λh1 held up1=>⟨m,up1.ns ns',λh2 sb ce _=>?_⟩
 obtain⟨b1,b2,b3,b4⟩:=held;obtain⟨oC1,_,_,gC1,dC1,_⟩:=up1.ns ns';obtain⟨oe,vs,T,oT,ts,ge,gc,gd,g1,gn,ne,gT,gD,g3⟩:=b4;have aC:a≠C:=λz=>by rw[z,gC1] at ge;cases ge;rw[dC1] at gd;cases gd
 have tC:T≠C:=λz=>by rw[z,gC1] at gT;cases gT;rw[dC1] at gD;cases gD
 have V9:h2.get? a=some oe:=(sb.2 a aC).trans ge;have gT2:h2.get? T=some oT:=(sb.2 T tC).trans gT;have gz:3<ts.size:=(y3.mp g3).1;unfold PySem.passOn;refine ai (wpAny_field V9 gd g1 ?_);walk_at"aZ";refine ai ?_;unfold setFlight;refine ai (wpAny_field V9 gd g1 ?_);rw[if_pos (by simp)];refine wpAny_setField gT2 gD gz (wpAny_throw ?_);generalize (ce.frame.elim Value.none λf=>rawInt f)=fl;have ot:∀ b,b≠T->(h2.update T (Obj.mapFields (·.setIfInBounds 3 fl))).get? b=h2.get? b:=λb hb=>xA _ _ (Ne.symm hb);have gT3:=xB (Obj.mapFields (·.setIfInBounds 3 fl)) gT2 (Obj.isFreed_of_fields (Obj.data_mapFields gD _));have nf:∀ b∈dz (X.env :: X.outer),∃ o,s'.heap.get? b=some o/\∀ us,o.data≠.fields us:=λb hb=>(vw.2.2.1.mem hb).2;have bk:∀ b o,B.get? b=some o->b≠C->(h2.update T (Obj.mapFields (·.setIfInBounds 3 fl))).get? b=some o:=λb o hb nb=>by rw[ot b (λz=>by rw[z,gn] at hb;cases hb),sb.2 b nb];exact b1 b o hb
 have sl3:∀ b o,h1.get? b=some o->(∀ us,o.data≠.fields us)->b≠C->(h2.update T (Obj.mapFields (·.setIfInBounds 3 fl))).get? b=some o:=λb o hb hn nb=>by rw[ot b (λz=>by rw[z,gT] at hb;cases hb;exact hn _ gD),sb.2 b nb];exact hb
 have fr':∀ b∈dz (X.env :: X.outer),H' b=none:=λb hb=>fr b (by rw[show(bh X sc C N' fp cf cq).stack=X.stack from rfl,hV];exact hb);have nC':C∉dz (X.env :: X.outer):=by rw[<- hV];exact nC
 have V_:∀ b o,(hideAll B [C]).get? b=some o->B.get? b=some o/\b≠C:=λb o q=>⟨of_hideAll _ q,λz=>by rw[z,hideAll_none [C] (mw.mpr rfl)] at q;cases q⟩
 have A3:∀ b,B.get? b=none->(hideAll B [C]).get? b=none:=λb q=>by
  cases z:(hideAll B [C]).get? b with
  |none=>rfl
  |some o=>rw[(V_ b o z).1] at q;cases q
 have ff3:∀ {l:List PySem.Env},h1.FunFrames B l->C∉dz l->(h2.update T (Obj.mapFields (·.setIfInBounds 3 fl))).FunFrames (hideAll B [C]) l:=λ{l}=>by
  induction l with
  |nil=>exact λ_ _=>trivial
  |cons v l ih =>
   rintro⟨q1,⟨L,o,q2,q3,q4,q5⟩,q6⟩ nl;have nl':C≠L/\C∉dz l:=by unfold dz at nl ⊢;rw[vS,q2] at nl;exact⟨λz=>nl (z ▸ dv),λz=>nl (cK _ z)⟩
   exact⟨q1,⟨L,o,q2,A3 L q3,sl3 L o q4 q5 (Ne.symm nl'.1),q5⟩,ih q6 nl'.2⟩
 have kx:∀ {h4:Heap},FC (hideAll B [C]) X.outer a (.ref C') a0 h4->(h2.update T (Obj.mapFields (·.setIfInBounds 3 fl))).UpToSlots h4->fK (dz X.stack) H' X.df.heap s'.heap h4:=λ{h4} f4 FD=>by
  refine⟨λb o e k nb=>?_,λb o e hb=>?_⟩
  ·have nbC:b≠C:=λz=>by subst z;exact k.elim (λy=>y hC') λy=>y sC
   have:=c0 b o e k λz=>nb ((hs b).mpr (.inr z));exact f4.1 b o (hideAll_get [C] this (λz=>nbC (mw.mp z)))
  ·rw[hV] at hb;obtain⟨o',e',hd⟩:=nf b hb;rw[e] at e';cases e';obtain⟨sl,e1⟩:=up1 b o e hd;obtain⟨LS,e2⟩:=FD b _ (sl3 b _ e1 hd λz=>nC' (z ▸ hb)) hd;exact⟨LS,e2⟩
 have fin:∀ {h4:Heap},FC (hideAll B [C]) X.outer a (.ref C') a0 h4->(h2.update T (Obj.mapFields (·.setIfInBounds 3 fl))).UpToSlots h4->fT P w mg rn X.outer X.qf X.df E (.ref a) { s' with heap:=h4 }:=λ{h4} f4 FD=>by
  have mv:=kx f4 FD;have nL:∀ b,(H' b≠none\/X.df.heap.get? b≠none)->b∉X.fs->b∉dz X.stack:=λb k nb z=>by
   rcases (hs b).mp z with rfl|z
   ·exact k.elim (λy=>y (fr' _ (by rw[<- hV];exact(hs _).mpr (.inl rfl)))) λy=>y sL
   ·exact nb z
  have mv':fK X.fs H' X.df.heap s'.heap h4:=⟨λb o e k nb=>mv.keep b o e k (nL b k nb),λb o e hb=>mv.slot b o e ((hs b).mpr (.inr hb))⟩
  have frX:∀ b∈X.fs,H' b=none:=λb hb=>fr' b (by rw[<- hV];exact(hs b).mpr (.inr hb));refine⟨a,n,C',a0,H',hideAll B [C],rfl,hn,os.trans J.os,bare,mv'.un u0,mv'.aS frX (by subst hX;exact aS),f4,λb o e k nb=>?_,frX,hE⟩;have ex:∃ o',s'.heap.get? b=some o':=by
   rcases k with k|k
   ·cases q:H' b with
    |none=>exact absurd q k
    |some u=>exact fh.there (aS b u q)
   ·cases q:X.df.heap.get? b with
    |none=>exact absurd q k
    |some o0=>exact u0.there b o0 q (by simp)
  obtain⟨o',e'⟩:=ex;have e2:=mv.keep b o' e' k (nL b k nb);rw[show({ s' with heap:=h4 }:Shared).heap=h4 from rfl] at e;rw[e] at e2;cases e2;exact hideAll_get [C] (c0 b o e' k nb) λz=>by have:=mw.mp z;subst this;exact k.elim (λy=>y hC') λy=>y sC
 subst hX;refine Eu (fl:=fl) hA rfl ⟨λb o q=>bk b o (V_ b o q).1 (V_ b o q).2,A3 a b2,ff3 b3 nC',oe,vs,T,_,_,(ot a (Ne.symm ne)).trans V9,gc,gd,g1,A3 T gn,ne,gT3,Obj.data_mapFields gD _,by simp[xcu,gz]⟩ λh4 f4 FD=>fin f4 FD
end
section
variable {X:Cx}{tg iter elt:Expr}{ifs:List Expr}{scope:Scope}{pos:Pos}{wi:TI}{g:TG}{tc:TT}{te:TE}{tn cn:List Str}{ix:List Nat}
theorem zL{MZ:Pos}{use:Option (Value->Sem Unit)}{P:Value->Shared->Prop}(hc:X.calm=true)(hi:PI X tg iter wi)(O:cG X scope tn cn ix)(hg:∀ C fp cf cq,PG (bh X scope C (tn++cn) fp cf cq) tg g) (mI:∀ C fp cf cq,tS (bh X scope C (tn++cn) fp cf cq) ifs tc) (he:∀ C fp cf cq,xq X C fp cf cq->PE (bh X scope C (tn++cn) fp cf cq) elt te)(hs:∀ x,foldedSetIterable iter X.env x=pure x) {pins:List (Addr × Obj)} {s:Shared} {σ:St} {H:Hp} {Q:V->Hp->Prop} (I:Inv X pins σ H s) (h:qO wi g tc te tn.length ix σ H Q)(fin:∀ (C D:Addr) (m:Str->Option Value) (H5:Hp) (s6:Shared) (r:Flow),Inv X pins σ H5 s6->s6.heap.Ns C m->H5 C=none->kN X pins H5 C->Q (.ref D) H5->compPost (model X.prog X.w) X.A X.xe use P (.ref D) C (.ok r) s6) :
  wpAny (model X.prog X.w) X.A (comprehension (.ListComp elt [⟨tg,iter,ifs,0⟩] scope pos) scope X.env MZ (newList []) false (eval iter X.env) use) P X.xe s:=by
 have i6:∀ y∈scope.names,y.2=.free->∃ c,X.env.cells.lookup y.1=some c:=λy hy hk=>I.ok.has y.1 (O.free y hy hk);have sub:∀ x c,(kQ X.env scope.names []).lookup x=some c->X.env.cells.lookup x=some c:=λx c e=>jA i6 (λy d h=>by simp at h) e;walk_at"F";obtain⟨it,fp,pj,J,H2,e,I2,T,mE,f2,h2⟩:=h2;subst e;walk_at"G";refine wpAny_newObj_type ?_;walk_at"d";generalize hD:s2.heap.objs.size=D at *
 generalize DF:({ s2 with heap:=s2.heap.push { cls:=.type "list",data:=.seq ([]:List Value).toArray } }:Shared)=s3 at *
 have AZ:∀ b o,s2.heap.get? b=some o->s3.heap.get? b=some o:=λb o e=>by rw[<- DF];exact dA _ e
 have sz3:s3.heap.objs.size=D+1:=by rw[<- DF,<- hD];exact LM ..
 have f3:∀ b∈fp,kN X pins (upd H2 D (.lst [])) b:=λb hb=>by obtain⟨f0,fr⟩:=f2 b hb;walk_at"bg";refine⟨?_,fr⟩;walk_at"ba";exact f0
 have kP:pj 0 s3.heap:=T.keep _ _ _ mE λb hb o e=>AZ b o e;have M0:∀ b∈fp,b<s3.heap.objs.size:=λb hb=>by obtain⟨o,ho,_⟩:=T.obj _ _ kP b hb;exact da ho
 walk_at"w";have kE:∀ b o,s3.heap.get? b=some o->x5.get? b=some o:=λb o e=>Nn.extBut b o (eL (da e)) (dA _ e)
 -- the block's context
 have sj:(bh X scope s3.heap.objs.size (tn++cn) fp s3 (upd H2 D (.lst []))).Ok:=by have:=n6 (C:=s3.heap.objs.size) O I3 f3 M0 (bE _);cases this;constructor<;>assumption
 have I4:Inv (bh X scope s3.heap.objs.size (tn++cn) fp s3 (upd H2 D (.lst []))) [] (eQ tn.length ix σ) (upd H2 D (.lst [])) { s3 with heap:=x5,toks:=s3.toks+([]:List (Str × Value)).length }:=by
  refine⟨sj,rfl,I3.bare,Un.kept kE,⟨_,Nc,λi x v e1 e2 e3=>?_⟩,λx c e=>?_,I3.aS.fresh (bE _),λx c e=>I3.nE x c (sub x c e),λp hp=>absurd hp (by simp[bh,aJ]),I3.aS.kept kE,?_⟩
  ·have js:tn.length<=i:=by
    by_cases q:i<tn.length
    ·unfold eQ at e2;rw[BQ (by simpa using q),KG] at e2;simp[q] at e2
    ·lia
   unfold eQ at e2;rw[vF (by simpa using js),KS,lI] at e2;have e1:(tn++cn)[i]? = some x:=e1;rw[vF js] at e1
   cases q:ix[i-tn.length]? with
   |none=>rw[q] at e2;cases e2
   |some j =>
    rw[q] at e2;walk_at"aJ";rw[c1] at e1;cases e1;walk_at"aw";have ej:σ[j]? = some (some v):=by
     cases z:σ[j]? with
     |none=>rw[z] at e2;cases e2
     |some o=>rw[z] at e2;exact congrArg some e2
    obtain⟨m,hn,hl⟩:=I3.loc;walk_at"v";refine⟨u,r,.inr ⟨c5,?_⟩⟩;rcases l with⟨hk,_⟩|⟨hk,c,Ct,Nw⟩
    ·walk_at"al";rcases c3 with z|z
     ·rw[z] at hk;cases hk
     ·rw[z] at hk;cases hk
    ·walk_at"aa";have:=sub x c' rS;rw[Ct] at this;cases this;obtain⟨o,ho,hd⟩:=Nw;exact⟨c,rS,o,kE _ _ ho,hd⟩
  ·walk_at"av";exact⟨v,o,kE _ _ ho,hd⟩
  ·walk_at"ap";unfold eQ;simp[O.len]
 -- from the block back to the body
 have back:∀ {τ:St} {H':Hp} {s':Shared},Inv (bh X scope s3.heap.objs.size (tn++cn) fp s3 (upd H2 D (.lst []))) [] τ H' s'->Inv X pins σ H' s':=λ{τ H' s'} I' =>
  Inv.R0 (ch:=fp) I3 I'.os I'.base I'.aS I'.bare λb hb=>by obtain⟨_,f1,_,EK,f4,f5⟩:=f3 b hb;exact⟨EK,f1,f4,f5⟩
 have x6:∀ {H':Hp},(∀ b∈fp,H' b=none)->∀ b∈fp,kN (bh X scope s3.heap.objs.size (tn++cn) fp s3 (upd H2 D (.lst []))) [] H' b:=λhn b hb =>
  ⟨hn b hb,(sj.tj b hb).1,sj.wo b hb,.inl hb,(sj.tj b hb).2,λp hp=>absurd hp (by simp[bh,aJ])⟩
 have loop:∀ s4:Shared,Inv (bh X scope s3.heap.objs.size (tn++cn) fp s3 (upd H2 D (.lst []))) [] (eQ tn.length ix σ) (upd H2 D (.lst [])) s4->pj 0 s4.heap ->
   codeAny (model X.prog X.w) X.A (.compLoop (.ListComp elt [⟨tg,iter,ifs,0⟩] scope pos) 0 (.ref it) (.ref D) (compEnvC scope (kQ X.env scope.names []) s3.heap.objs.size X.env)) (compPost (model X.prog X.w) X.A X.xe use P (.ref D) s3.heap.objs.size) s4:=by
  intro s4 I4 px;refine cB (λn s'=>∃ i τ H',Inv (bh X scope s3.heap.objs.size (tn++cn) fp s3 (upd H2 D (.lst []))) [] τ H' s'/\pj i s'.heap/\(∀ b∈fp,H' b=none)/\W i n τ H') (TJ X scope s3.heap.objs.size) ?_ (λe s' z=>by cases use<;>exact z) m0 ⟨0,_,_,I4,px,λb hb=>(f3 b hb).1,w0⟩
  walk_at"bc";rcases turn i n τ H5 w5 with⟨stop,qn⟩|⟨go,N1,N2,NC,ND,step⟩
  ·refine bX (T.done (bh X scope s3.heap.objs.size (tn++cn) fp s3 (upd H2 D (.lst []))) rfl rfl rfl hc i [] s5 τ H5 (TJ X scope s3.heap.objs.size) I5 (x6 zk) tF stop) λr s6 ck=>?_;obtain⟨hr,I6⟩:=ck;subst hr;have J6:=back I6;obtain⟨m,hn,_⟩:=I6.loc;walk_at"r"
  ·refine bX (T.item (bh X scope s3.heap.objs.size (tn++cn) fp s3 (upd H2 D (.lst []))) rfl rfl rfl hc i [] s5 τ H5 (TJ X scope s3.heap.objs.size) I5 (x6 zk) tF go) λr s6 ck=>?_;obtain⟨u,hr,h6⟩:=ck;subst hr;refine bX h6 λ_ s7 ck=>?_;obtain⟨x,H7,I7,r7,y7,tT,EL⟩:=ck;walk_at"aK";refine bX (hg _ _ _ _ _ s7 τ H7 x u _ NF r7 (step x H7 y7)) λ_ s8 ck=>?_;obtain⟨mP,H8,I8,q8⟩:=ck;refine bX (mI _ _ _ _ _ s8 mP H8 _ I8 q8) λok s9 ck=>?_;obtain⟨H9,I9,q9⟩:=ck;have again:∀ {s':Shared} {H':Hp} {m':Nat},Inv (bh X scope s3.heap.objs.size (tn++cn) fp s3 (upd H2 D (.lst []))) ([]++EI fp s7.heap) mP H' s'->m'<n->W (i+1) m' mP H' ->
     ∃ m,m<n/\∃ i τ H',Inv (bh X scope s3.heap.objs.size (tn++cn) fp s3 (upd H2 D (.lst []))) [] τ H' s'/\pj i s'.heap/\(∀ b∈fp,H' b=none)/\W i m τ H':=λ{s' H' m'} J hm w'=>by
    walk_at"j";walk_at"bj";walk_at"ax"
   cases ok with
   |false =>rw[if_neg hU] at q9 ⊢;obtain⟨m',hm,w'⟩:=ND _ _ q9;exact again I9 hm w'
   |true =>rw[if_pos rfl] at q9 ⊢;refine bX (he _ _ _ _ ⟨pins,σ,I3,f3,rfl⟩ _ s9 mP H9 _ I9 q9) λx9 NH b6=>L2.fe b6 λv10 DH NJ ER NM=>?_;obtain⟨ys,m',hH,hz,hm,w'⟩:=NC _ _ _ NM;refine bX (Sf _ NH mP DH (.ref D) [v10] (.ref D) [x9] (λ_ H'=>H'=upd DH D (.lst (ys++[v10]))) NJ rfl (.cons ER .nil) ⟨D,ys,v10,rfl,rfl,hH,hz,rfl⟩) λ_ s11 b6=>L2.fe b6 λ_ H11 NR _ NS=>?_;subst NS;exact again NR hm w'
 walk_at"c"
theorem CQ(hc:X.calm=true)(hi:PI X tg iter wi)(O:cG X scope tn cn ix)(hg:∀ C fp cf cq,PG (bh X scope C (tn++cn) fp cf cq) tg g) (mI:∀ C fp cf cq,tS (bh X scope C (tn++cn) fp cf cq) ifs tc) (he:∀ C fp cf cq,xq X C fp cf cq->PE (bh X scope C (tn++cn) fp cf cq) elt te)(hs:∀ x,foldedSetIterable iter X.env x=pure x:=by intro _;rfl):PE X (.ListComp elt [⟨tg,iter,ifs,0⟩] scope pos) (qO wi g tc te tn.length ix):=by
 walk_at"x";rw[eval_ListComp];refine zL (use:=none) (P:=EP X pins σ Q) hc hi O hg mI he hs I h λC D m H5 s6 r J6 hn hf ⟨_,g1,_,g3,g4,g5⟩ qn=>⟨m,hn,λh' HP=>⟨.ref D,H5,?_,rfl,qn⟩⟩
 walk_at"A"
end
abbrev sR:=Env->(Str->Prop)->(Md->D->Prop)->Prop
abbrev BI:=Env->(Str->Prop)->(List (Md × D)->Prop)->Prop
def Wa(K:PySem.W.Frag)(L:Str->Hp->Prop)(t:sR):TE:=λσ H Qv=>∃ Hs ρ ag Y Q,dE K Hs ρ σ H ag/\t ρ Y Q /\ (∀ v H' aw m d As,eS Hs H aw H'->RM K aw H' m d v As->cX aw H As->Q m d->Qv v H')/\∀ n H',aT Hs H'->Y n->L n H'
def Mf(K:PySem.W.Frag)(L:Str->Hp->Prop)(t:BI):TA:=λσ H Qv=>∃ Hs ρ ag Y Q,dE K Hs ρ σ H ag/\t ρ Y Q /\ (∀ vs H' aw ps As,eS Hs H aw H'->w_ K aw H' ps vs As->cX aw H As->Q ps->Qv vs H')/\∀ n H',aT Hs H'->Y n->L n H'
abbrev JA(X:Cx)(K:PySem.W.Frag)(L:Str->Hp->Prop)(e:Expr)(t:sR):Prop:=PE X e (Wa K L t)
abbrev TK(X:Cx)(K:PySem.W.Frag)(L:Str->Hp->Prop)(es:List Expr)(t:BI):Prop:=PA X es (Mf K L t)
def nP(sp:eA)(t:WA):sR:=λρ Y Q=>t ρ λps=>sp (ps.map (·.2)) λm d=>mr m d Y (bP (m,d) (f:=λp=>Q (uk p.1 p.2) p.2) ⟨⟩)
def Gd:BI:=λ_ _ Q=>Q []
def um(te:sR)(t:BI):BI:=λρ Y Q=>te ρ Y λm d=>t ρ Y λps=>Q ((m,d) :: ps)
def Hx(t:BI):sR:=λρ Y Q=>t ρ Y λps=>ps.length<=sizeLine/\ps.all uj=true/\Q .sh (.tup (ps.map (·.2)))
def xX(wi:WI)(g:WG)(tc:WT)(te:sR)(tn:Nat)(ix:List Nat):sR:=λρ Y Q=>jB wi g tc (te · Y ·) tn ix ρ Q
def Dz(t:sR):WS:=λE ρ=>t ρ (λn=>E.rt (.ow false) (.str n)) E.rt
section
variable {X:Cx}{K:PySem.W.Frag}{rn:List Str}{E:XK}{e:Expr}{es:List Expr}{te:WE}{t:WA}{tx:sR}{ta:BI}{pos:Pos}{L:Str->Hp->Prop}
theorem J9:TK X K L [] Gd:=PA.imp aD λσ H Qv hx=>by obtain⟨Hs,ρ,ag,Y,Q,sr,h,f,fx⟩:=hx;exact⟨Hs,ρ,ag,Q,sr,h,f⟩
theorem vy(ha:JA X K L e tx)(hr:TK X K L es ta)(hs:starEach (e :: es) X.env=(false,eval e X.env) :: starEach es X.env:=by rfl):TK X K L (e :: es) (um tx ta):=by refine PA.imp (mG ha hr hs) λσ H Qv hx=>?_;obtain⟨Hs,ρ,ag,Y,Q,sr,h,f,fx⟩:=hx;refine⟨Hs,ρ,ag,Y,_,sr,h,λv H1 ay m x As g1 r1 f1 q1=>⟨ay,ρ,ag,Y,_,sr.grow g1,q1,λvs H2 aI ps Bs g2 r2 f2 q2=>?_,λn H' s y=>fx n H' (g1.sh.trans s) y⟩,fx⟩;exact f (v :: vs) H2 aI _ _ (g1.trans g2) (.cons (r1.grow g2) r2) (f1.app (λa h=>(r1.own a h).ne) f2 g1.all λa h1 h2=>g2.nK h1 h2) q2
theorem Jl{x1}(h:TK X K L es ta):JA X K L (.Tuple es x1 pos) (Hx ta):=by refine PE.imp (UI h) λσ H Qv hx=>?_;obtain⟨Hs,ρ,ag,Y,Q,sr,h,f,fx⟩:=hx;refine⟨Hs,ρ,ag,Y,_,sr,h,λvs H1 ay ps As g1 r1 f1 q1=>?_,fx⟩;obtain⟨hz,h1,q⟩:=q1;have hl:=(r1.reps g1.wf).length;rw[cE] at hl;refine⟨by lia,λp hp=>?_⟩;have g2:=SY (vs:=vs) g1.wf hp;exact Fin.after f g1 _ _ _ .sh _ [] g2 ⟨rfl,.tup (by lia) iL ((r1.sh g1.wf h1).same g2.sh)⟩ cX.nil q
theorem zW(he:JA X K L e tx):QS X K L (.Return (some e) pos) (Dz tx) :=
 PS.imp (GV he) λD σ H hx=>ir hx λHs ρ ag E' sr h k1 k2 k3 k4 kx=>⟨Hs,ρ,ag,_,_,sr,h,λv H1 ay m d As g1 r1 f1 q1=>k4 v H1 ay m d As g1.sh g1.wf r1 f1.1 (λa ha=>(f1.2 a ha).1) q1,kx⟩
theorem qT {k:Nat} {x:Str} {ps:List Str} {sp:eA} {p:Pos} (C:iX X.prog X.w X.K X.mg X.base rn k x ps sp) (hr:gI k X.A) (hx:Passes (fT X.prog X.w X.mg rn) X E) (ha:QA X K (e :: es) t) (hK:X.K=K:=by rfl) (hg:Gl X x:=by rfl) (g7:(x == ("__debug__" : Str))=false:=by decide) (he:starEach (e :: es) X.env=(false,eval e X.env) :: starEach es X.env:=by rfl) (hZ:(backTo pos (starEach es X.env)).any (·.1)=false:=by rfl):JA X K (LX rn X.mg E) (.Call (.Name x p) (e :: es) [] pos) (nP sp t):=by
 subst hK;refine PE.imp (rY C hr hx ha hg g7 he hZ) λσ H Qv h=>?_;obtain⟨Hs,ρ,ag,Y,Q,sr,h,f,fx⟩:=h;exact iw sr h f fx
theorem yH{L:Str->Hp->Prop}{wi:WI}{g:WG}{tc:WT}{te:sR}{tn:Nat}{ix:List Nat}{σ:St}{H:Hp}{Qv:VK}(h:Wa K L (xX wi g tc te tn ix) σ H Qv):qO (Ta K wi) (Vu K g) (A8 K tc) (Wa K L te) tn ix σ H Qv:=by
 obtain⟨Hs,ρ,ag,Y,Q,sr,h,f,fx⟩:=h;rw[xW];walk_at"bh";have st:CompI K H1 b [] [] [] H1 (DY tn ix ρ) (eQ tn ix σ) (upd H1 b (.lst [])):=by
  walk_at"t";by_cases ha:a=b
  ·subst ha;rw[iL] at e;cases e
  ·rw[fR ha] at e;exact e
 refine⟨λi m τ H2=>m=ds.length-i/\i<=ds.length/\∃ aI gp acc ys As,CompI K H1 b acc ys As aI gp τ H2/\acc.length<=i/\eN g tc (te · Y ·) (ds.drop i) gp (λout=>Q (.ow true) (.list (acc++out))), ⟨ds.length,by simp,dy _,H1,_,[],[],[],st,bE _,by simpa using q1⟩,?_⟩
 rintro i m τ H2 ⟨rfl,hi,aI,gp,acc,ys,As,c,la,q2⟩;by_cases eu:i<ds.length
 ·refine .inr ⟨S.go i aI H2 c.sm c.sr.wf eu,
   λvj v H4=>∃ yk ku d,CompI K H1 b acc ys As yk ku vj H4/\(∃ fI,CompI K H1 b (acc++[d]) (ys++[v]) fI yk ku vj (upd H4 b (.lst (ys++[v]))))/\eN g tc (te · Y ·) (ds.drop (i+1)) ku (λout=>Q (.ow true) (.list (acc++d :: out))),
   λvj H3=>∃ iA Bn,CompI K H1 b acc ys As iA Bn vj H3/\eN g tc (te · Y ·) (ds.drop (i+1)) Bn (λout=>Q (.ow true) (.list (acc++out))),?_,?_,?_⟩
  ·rintro vj v H4 ⟨yk,ku,d,c4,⟨fI,c5⟩,q4⟩;have Vx:=c4.ra.length;walk_at"I"
  ·rintro vj H3 ⟨iA,Bn,c3,q3⟩;walk_at"aN"
  ·intro x H3 y;walk_at"aH";rw[D4 eu] at q2;have c3:=c.grow g3;walk_at"aU";have t4:O0=[]:=xcj.mpr λa ha=>nomatch m4 a ha;subst t4;have c4:CompI K H1 b acc ys As iA ku Vy H3:=⟨c3.sm,E8,c3.eD,c3.nD,c3.ra,c3.nd,c3.own⟩
   refine⟨iA,ku,[],_,E8,q4,λk H5 vi g5 q5=>?_⟩;have c5:=c4.grow g5
   cases k with
   |false=>exact⟨vi,ku,c5,q5⟩
   |true =>
    refine⟨vi,ku,[],Y,_,c5.sr,q5,λv H6 Vz m6 d6 As6 g6 r6 f6 q6=>?_,λn H' sm y=>fx n H' (g1.sh.trans (g1.wf.sub.trans (c5.sm.trans sm))) y⟩;have c6:=c5.grow g6;walk_at"ak";rcases dc.mp m with rfl|m
    ·have:=(f6.2 _ ha).2;rw[c5.eD] at this;cases this
    ·exact(c5.ra.own a m).ne (f6.2 a ha).2
 ·have e:i=ds.length:=by lia
  subst e;refine .inl ⟨S.stop aI H2 c.sm c.sr.wf,?_⟩;rw[Rp] at q2;have q2:Q (.ow true) (.list (acc++[])):=q2;rw[og] at q2;have Vx:=c.ra.length;walk_at"Y"
  obtain⟨fI,r',fr⟩:=qZ g1.wf c.sm c.sr.wf rm c.nd λa ha=>(dc.mp ha).elim (λz=>z ▸ c.nD) (c.own a);walk_at"ah"
theorem HX{tg iter elt:Expr}{ifs:List Expr}{scope:Scope}{pos:Pos}{wi:WI}{g:WG}{tc:WT}{te:sR}{tn cn:List Str}{ix:List Nat}(hc:X.calm=true)(hi:Tb X K tg iter wi)(O:cG X scope tn cn ix)(hg:∀ C fp cf cq,QG (bh X scope C (tn++cn) fp cf cq) K tg g) (mI:∀ C fp cf cq,Pw (bh X scope C (tn++cn) fp cf cq) K ifs tc) (he:∀ C fp cf cq,xq X C fp cf cq->JA (bh X scope C (tn++cn) fp cf cq) K L elt te)(hs:∀ x,foldedSetIterable iter X.env x=pure x:=by intro _;rfl):JA X K L (.ListComp elt [⟨tg,iter,ifs,0⟩] scope pos) (xX wi g tc te tn.length ix) :=
 PE.imp (CQ hc hi O hg mI he hs) λσ H Qv h=>yH h
end
end L2.Q
namespace L2.Q.R
open L2.Q PySem
section
variable {Q:Md->L2.Q.D->Prop}{Y:Str->Prop}{ρ:L2.Q.Env}{E:n8}
theorem KQ{sp:eA}{t:WA}:nP sp t ρ Y Q=t ρ λps=>sp (ps.map (·.2)) λm d=>mr m d Y (bP (m,d) (f:=λp=>Q (uk p.1 p.2) p.2) ⟨⟩):=rfl
theorem Nx{Q:List (Md × L2.Q.D)->Prop}:Gd ρ Y Q=Q []:=rfl
theorem Ly{te:sR}{t:BI}{Q:List (Md × L2.Q.D)->Prop}:um te t ρ Y Q=te ρ Y λm d=>t ρ Y λps=>Q ((m,d) :: ps):=rfl
theorem Oe{t:BI}:Hx t ρ Y Q=t ρ Y λps=>ps.length<=sizeLine/\ps.all uj=true/\Q .sh (.tup (ps.map (·.2))):=rfl
theorem Kw{wi:WI}{g:WG}{tc:WT}{te:sR}{tn:Nat}{ix:List Nat}:xX wi g tc te tn ix ρ Y Q=jB wi g tc (te · Y ·) tn ix ρ Q:=rfl
theorem Nb{t:sR}:Dz t E ρ=t ρ (λn=>E.rt (.ow false) (.str n)) E.rt:=rfl
end
end L2.Q.R
namespace L2
open PySem PySem.Spec PyProof.Rows
theorem vO:entryFor table "proto.unchain" = some Builtin.«proto.unchain» := entryFor_of_fast (by kernel_rfl)
theorem rW{α:Type}{prog:Program}{w:World}{A:Around}{E:Value->Shared->Prop}{s:Shared}{Q:α->Shared->Prop}{e a0:Addr}{oe ob:Obj}{vs us:Array Value}(hd:A.handled=some (.ref a0))(ne:a0≠e)(ho:s.heap.get? a0=some oe)(hv:oe.data=.fields vs)(h2:vs[2]? = some .none)(he:s.heap.get? e=some ob)(hu:ob.data=.fields us)(hz:2<us.size)(h:E (.ref e) { s with heap:=s.heap.update e (Obj.mapFields (·.setIfInBounds 2 (.ref a0))) }):wpAny (model prog w) A (raiseNew (.ref e):Sem α) Q E s:=by
 unfold raiseNew;refine ai (wpAny_handled ?_);rw[hd];dsimp only;rw[if_pos (by simpa using ne)];refine ai (wpAny_holding (runValue_entry vO ?_));unfold Builtin.«proto.unchain»;refine ai (wpAny_field ho hv h2 ?_);rw[if_pos (by decide)];refine aE ⟨_,rfl,?_⟩;exact ai (wpAny_setField he hu hz (wpAny_throw h))
section
variable {prog:Program}{w:World}{A:Around}{E:Value->Shared->Prop}{s:Shared}
theorem Br{it l a0:Addr}{i:Nat}{items:Array Value}{oe:Obj}{vs:Array Value}{Q:Option Value->Shared->Prop}(hd:A.handled=some (.ref a0))(ho:s.heap.get? a0=some oe)(hv:oe.data=.fields vs)(h2:vs[2]? = some .none)(EF:a0≠it)(hit:s.heap.IsListIter it l i) (hl:s.heap.IsList l items) (hx:items[i]? = none) (hQ:∀ h',Heap.ExtBut it s.heap h'->Q none { s with heap:=h' }):wpAny (model prog w) A (pyNext (.ref it)) Q E s:=by
 obtain⟨o,q1,q2,q3⟩:=id hit;obtain⟨ol,r1,_,nl,r3⟩:=hl;unfold pyNext;refine ai (wpAny_attempt (wpAny_callSpecial?_slot (name:=Str.ofString "__next__") hit.typeIs slot_listiter_next (wpAny_call_entry slot_listiter_next hit.typeIs entry_listiter_next ?_ (args_listiter_next _))));change wpAny _ _ (PySem.field (.ref it) 0 >>= _) _ _ s;refine ai (wpAny_field q1 q3 (x:=.ref l) rfl ?_);dsimp only;walk_at"aZ";refine ai (wpAny_field q1 q3 (x:=.int i 0) rfl (ai (wpAny_seqItems r1 r3 ?_)));simp only[GO,hx];refine ai (wpAny_rule (ai (wpAny_setField q1 q3 (by simp) ?_)));refine ai ?_;simp only[newExc,newTuple];walk_at"ar";refine ai (m:=firstArgMember _ _) (wpAny_of_eq (a:=Value.none) (by first|rfl|(simp only[firstArgMember];rfl)) (wpAny_newObj_type ?_ (by size_fits)));generalize hh:(s.heap.update it _).push _=h3;have k:Heap.ExtBut it s.heap h3:=by rw[<- hh];exact(Heap.SameBut.update ..).extBut.push _
 have lt:∀ b o,b≠it->s.heap.get? b=some o->b≠h3.objs.size:=λb o nb q=>eL (da (k b o nb q));refine rW hd (lt a0 oe EF ho) (dA _ (k a0 oe EF ho)) hv h2 (gV _ rfl) rfl (by simp;lia) ?_;refine ai (wpAny_isInstance (T := "StopIteration") (b:=true) ⟨_,xB _ (gV _ rfl) rfl,rfl⟩ isSubtype_stop ?_);exact aE (hQ _ λb o nb q=>(xA _ _ (Ne.symm (lt b o nb q))).trans (dA _ (k b o nb q)))
end
section
variable {X:Cx}{pins:List (Addr × Obj)}{σ:St}{H:Hp}{s:Shared}{E:Value->Shared->Prop}{it a i:Nat}{tg:Expr}
theorem za(I:Inv X pins σ H s)(f:kN X pins H it)(st:s.heap.IsListIter it a i)(hg:(CD X.K a).go i H):wpAny (model X.prog X.w) X.A (pyNext (.ref it)) (λr s1=>∃ u,r=some u /\
   wpAny (model X.prog X.w) X.A (letOwnedTupleGo tg (.ref it) u) (λ_ s2=>∃ x H',Inv X pins σ H' s2/\RelV x u/\(CD X.K a).kM i H x H'/\s2.heap.IsListIter it a (i+1)/\H' it=none) E s1) E s:=by
 obtain⟨xs,x,hq,hx⟩:=hg;obtain⟨its,rv,p,hz⟩:=I.list hq;obtain⟨u,hu,ru⟩:=rv.get hx;obtain⟨f0,f1,f2,f3,f4,f5⟩:=f;refine wpAny_pyNext_list_item st p.isList (x:=u) (by simpa using hu) λh' ah sb=>?_;have I1:Inv X pins σ H { s with heap:=h' }:=I.turned (t':=s.toks) (λb o hb e=>(sb.2 b hb).trans e) f0 f1 f3 f4 f5;obtain⟨o,e,c,d⟩:=id ah;exact⟨u,rfl,L5 (s:={ s with heap:=h' }) e c d (by decide) ⟨x,H,I1,ru,⟨rfl,λys hy=>by rw[I.bn' hy hq];exact hx⟩,ah,f0⟩⟩
theorem yP{a0:Addr}{oe:Obj}{vs:Array Value}(hd:X.A.handled=some (.ref a0))(ho:s.heap.get? a0=some oe)(hv:oe.data=.fields vs)(h2:vs[2]? = some .none)(I:Inv X pins σ H s)(f:kN X pins H it)(st:s.heap.IsListIter it a i)(hg:(CD X.K a).stop i H)(EF:a0≠it):wpAny (model X.prog X.w) X.A (pyNext (.ref it)) (λr s1=>r=none/\Inv X pins σ H s1) E s:=by obtain⟨xs,hq,hx⟩:=hg;obtain⟨its,rv,p,hz⟩:=I.list hq;obtain⟨f0,f1,f2,f3,f4,f5⟩:=f;have hl:=rv.length;exact Br hd ho hv h2 EF st p.isList (by simp;lia) λh' eb=>⟨rfl,I.turned (t':=s.toks) (λb o hb e=>eb b o hb e) f0 f1 f3 f4 f5⟩
theorem DQ{l:Expr}{tl:TE}(hl:PE X l tl):∀ (pins:List (Addr × Obj)) (s:Shared) (σ:St) (H:Hp) (R:It->Hp->Prop),Inv X pins σ H s->L6 X.K tl σ H R ->
  wpAny (model X.prog X.w) X.A (eval l X.env) (λv s1=>wpAny (model X.prog X.w) X.A (pyIter v) (λEH s2=>∃ (it a:Addr) (H':Hp),EH=.ref it/\Inv X pins σ H' s2/\s2.heap.IsListIter it a 0/\kN X pins H' it/\R (CD X.K a) H') X.xe s1) X.xe s:=by
 intro pins s σ H R I h;refine bX (hl pins s σ H _ I h) λv s1 b6=>L2.fe b6 λx H1 I1 r1 q1=>?_;obtain⟨a,e,⟨xs,hq⟩,q⟩:=q1;subst e;cases r1;obtain⟨its,rv,p,hz⟩:=I1.list hq;refine wpAny_pyIter_list p.isList ?_;exact⟨s1.heap.objs.size,a,H1,rfl,I1.kept (t':=s1.toks) λb o e=>dA _ e,⟨_,gV _ rfl,rfl,rfl⟩,I1.AR (bE _) (I1.aS.fresh (bE _)),q⟩
end
section
variable {X:Cx}{tg iter elt:Expr}{ifs:List Expr}{scope:Scope}{pos:Pos}{g:TG}{tc:TT}{te:TE}{tn cn:List Str}{ix:List Nat}
theorem A_{a0:Addr}{oe:Obj}{vs:Array Value}{tl:TE}{MZ:Pos}{use:Option (Value->Sem Unit)}{P:Value->Shared->Prop}(hd:X.A.handled=some (.ref a0))(hp:(a0,oe)∈X.pn)(hv:oe.data=.fields vs)(Tt:vs[2]? = some .none)(hi:PE X iter tl)(O:cG X scope tn cn ix)(hg:∀ C fp cf cq,PG (aJ X scope C (tn++cn) fp cf cq) tg g) (mI:∀ C fp cf cq,tS (aJ X scope C (tn++cn) fp cf cq) ifs tc) (he:∀ C fp cf cq,PE (aJ X scope C (tn++cn) fp cf cq) elt te)(hs:∀ x,foldedSetIterable iter X.env x=pure x) {pins:List (Addr × Obj)} {s:Shared} {σ:St} {H:Hp} {Q:V->Hp->Prop} (I:Inv X pins σ H s) (h:qO (L6 X.K tl) g tc te tn.length ix σ H Q)(fin:∀ (C D:Addr) (m:Str->Option Value) (H5:Hp) (s6:Shared) (r:Flow),Inv X pins σ H5 s6->s6.heap.Ns C m->H5 C=none->kN X pins H5 C->Q (.ref D) H5->compPost (model X.prog X.w) X.A X.xe use P (.ref D) C (.ok r) s6) :
  wpAny (model X.prog X.w) X.A (comprehension (.ListComp elt [⟨tg,iter,ifs,0⟩] scope pos) scope X.env MZ (newList []) false (eval iter X.env) use) P X.xe s:=by
 have i6:∀ y∈scope.names,y.2=.free->∃ c,X.env.cells.lookup y.1=some c:=λy hy hk=>I.ok.has y.1 (O.free y hy hk);have sub:∀ x c,(kQ X.env scope.names []).lookup x=some c->X.env.cells.lookup x=some c:=λx c e=>jA i6 (λy d h=>by simp at h) e;refine wpAny_comprehension_free (use:=use) rfl hs (gk i6) O.kind O.names (bX (DQ hi pins s σ H _ I h) λv s1 h1=>bX h1 λEH s2 h2=>?_);obtain⟨it,la,H2,e,I2,mE,f2,h2⟩:=h2;have T:=bw' (P:=X.prog) (w:=X.w) (K:=X.K) (tg:=tg) la it;generalize Wb:(λ(i:Nat) (h:Heap)=>h.IsListIter it la i)=pj at T;have mE:pj 0 s2.heap:=by rw[<- Wb];exact mE
 have un:∀ i h,pj i h->h.IsListIter it la i:=λi h q=>by rw[<- Wb] at q;exact q
 generalize Fs:[it]=fp at *
 have f2:∀ b∈fp,kN X pins H2 b:=λb hb=>by rw[<- Fs] at hb;exact(mw.mp hb) ▸ f2
 subst e;walk_at"G";refine wpAny_newObj_type ?_;walk_at"d";generalize hD:s2.heap.objs.size=D at *
 generalize DF:({ s2 with heap:=s2.heap.push { cls:=.type "list",data:=.seq ([]:List Value).toArray } }:Shared)=s3 at *
 have AZ:∀ b o,s2.heap.get? b=some o->s3.heap.get? b=some o:=λb o e=>by rw[<- DF];exact dA _ e
 have sz3:s3.heap.objs.size=D+1:=by rw[<- DF,<- hD];exact LM ..
 have f3:∀ b∈fp,kN X pins (upd H2 D (.lst [])) b:=λb hb=>by obtain⟨f0,fr⟩:=f2 b hb;walk_at"bg";refine⟨?_,fr⟩;walk_at"ba";exact f0
 have kP:pj 0 s3.heap:=T.keep _ _ _ mE λb hb o e=>AZ b o e;have M0:∀ b∈fp,b<s3.heap.objs.size:=λb hb=>by obtain⟨o,ho,_⟩:=T.obj _ _ kP b hb;exact da ho
 walk_at"w";have kE:∀ b o,s3.heap.get? b=some o->x5.get? b=some o:=λb o e=>Nn.extBut b o (eL (da e)) (dA _ e)
 -- the block's context
 have sj:=n6 (C:=s3.heap.objs.size) O I3 f3 M0 (bE _);have I4:Inv (aJ X scope s3.heap.objs.size (tn++cn) fp s3 (upd H2 D (.lst []))) [] (eQ tn.length ix σ) (upd H2 D (.lst [])) { s3 with heap:=x5,toks:=s3.toks+([]:List (Str × Value)).length }:=by
  walk_at"p"
  ·have js:tn.length<=i:=by
    by_cases q:i<tn.length
    ·unfold eQ at e2;rw[BQ (by simpa using q),KG] at e2;simp[q] at e2
    ·lia
   unfold eQ at e2;rw[vF (by simpa using js),KS,lI] at e2;have e1:(tn++cn)[i]? = some x:=e1;rw[vF js] at e1
   cases q:ix[i-tn.length]? with
   |none=>rw[q] at e2;cases e2
   |some j =>
    rw[q] at e2;walk_at"aJ";rw[c1] at e1;cases e1;walk_at"aw";have ej:σ[j]? = some (some v):=by
     cases z:σ[j]? with
     |none=>rw[z] at e2;cases e2
     |some o=>rw[z] at e2;exact congrArg some e2
    obtain⟨m,hn,hl⟩:=I3.loc;walk_at"v";refine⟨u,r,.inr ⟨c5,?_⟩⟩;rcases l with⟨hk,_⟩|⟨hk,c,Ct,Nw⟩
    ·walk_at"al";rcases c3 with z|z
     ·rw[z] at hk;cases hk
     ·rw[z] at hk;cases hk
    ·walk_at"aa";have:=sub x c' rS;rw[Ct] at this;cases this;obtain⟨o,ho,hd⟩:=Nw;exact⟨c,rS,o,kE _ _ ho,hd⟩
  ·walk_at"av";exact⟨v,o,kE _ _ ho,hd⟩
  ·walk_at"ap";unfold eQ;simp[O.len]
 -- from the block back to the body
 have back:∀ {τ:St} {H':Hp} {s':Shared},Inv (aJ X scope s3.heap.objs.size (tn++cn) fp s3 (upd H2 D (.lst []))) [] τ H' s'->Inv X pins σ H' s':=λ{τ H' s'} I' =>
  Inv.R0 (ch:=fp) I3 I'.os I'.base I'.aS I'.bare λb hb=>by obtain⟨_,f1,_,EK,f4,f5⟩:=f3 b hb;exact⟨EK,f1,f4,f5⟩
 have x6:∀ {H':Hp},(∀ b∈fp,H' b=none)->∀ b∈fp,kN (aJ X scope s3.heap.objs.size (tn++cn) fp s3 (upd H2 D (.lst []))) [] H' b:=λhn b hb =>
  ⟨hn b hb,(sj.tj b hb).1,sj.wo b hb,.inl hb,(sj.tj b hb).2,λp hp=>absurd hp (by simp[aJ])⟩
 have MY:∀ {pp:List (Addr × Obj)} {τ:St} {H':Hp} {s':Shared},Inv (aJ X scope s3.heap.objs.size (tn++cn) fp s3 (upd H2 D (.lst []))) pp τ H' s'->s'.heap.get? a0=some oe:=λ{pp τ H' s'} I'=>by
  obtain⟨p1,p2,p3,p4,_⟩:=I3.pin (a0,oe) (gE _ hp);refine I'.base.keep a0 oe p1 p2 (λz=>?_) λz=>(f3 a0 z).2.2.2.2.2 _ (gE _ hp) rfl;rcases dc.mp (I3.RV a0 z) with e|e
  ·exact p3 e
  ·exact p4 e
 have loop:∀ s4:Shared,Inv (aJ X scope s3.heap.objs.size (tn++cn) fp s3 (upd H2 D (.lst []))) [] (eQ tn.length ix σ) (upd H2 D (.lst [])) s4->pj 0 s4.heap ->
   codeAny (model X.prog X.w) X.A (.compLoop (.ListComp elt [⟨tg,iter,ifs,0⟩] scope pos) 0 (.ref it) (.ref D) (compEnvC scope (kQ X.env scope.names []) s3.heap.objs.size X.env)) (compPost (model X.prog X.w) X.A X.xe use P (.ref D) s3.heap.objs.size) s4:=by
  intro s4 I4 px;walk_at"f"
  walk_at"bc";rcases turn i n τ H5 w5 with⟨stop,qn⟩|⟨go,N1,N2,NC,ND,step⟩
  ·refine bX (yP (X:=(aJ X scope s3.heap.objs.size (tn++cn) fp s3 (upd H2 D (.lst [])))) (E:=λ_ _=>False) hd (MY I5) hv Tt I5 (x6 zk it (by rw[<- Fs];exact mw.mpr rfl)) (un _ _ tF) stop (λz=>(f3 a0 (by rw[<- Fs,z];exact mw.mpr rfl)).2.2.2.2.2 _ (gE _ hp) rfl)) λr s6 ck=>?_;obtain⟨hr,I6⟩:=ck;subst hr;have J6:=back I6;obtain⟨m,hn,_⟩:=I6.loc;walk_at"r"
  ·refine bX (za (X:=(aJ X scope s3.heap.objs.size (tn++cn) fp s3 (upd H2 D (.lst [])))) (tg:=tg) (E:=λ_ _=>False) I5 (x6 zk it (by rw[<- Fs];exact mw.mpr rfl)) (un _ _ tF) go) λr s6 ck=>?_;obtain⟨u,hr,h6⟩:=ck;subst hr;refine bX h6 λ_ s7 ck=>?_;obtain⟨x,H7,I7,r7,y7,tT,EL⟩:=ck;have tT:pj (i+1) s7.heap:=by rw[<- Wb];exact tT
   have EL:∀ b∈fp,H7 b=none:=λb hb=>by rw[<- Fs] at hb;exact(mw.mp hb) ▸ EL
   walk_at"aK";refine bX (hg _ _ _ _ _ s7 τ H7 x u _ NF r7 (step x H7 y7)) λ_ s8 ck=>?_;obtain⟨mP,H8,I8,q8⟩:=ck;refine bX (mI _ _ _ _ _ s8 mP H8 _ I8 q8) λok s9 ck=>?_;obtain⟨H9,I9,q9⟩:=ck;have again:∀ {s':Shared} {H':Hp} {m':Nat},Inv (aJ X scope s3.heap.objs.size (tn++cn) fp s3 (upd H2 D (.lst []))) ([]++EI fp s7.heap) mP H' s'->m'<n->W (i+1) m' mP H' ->
     ∃ m,m<n/\∃ i τ H',Inv (aJ X scope s3.heap.objs.size (tn++cn) fp s3 (upd H2 D (.lst []))) [] τ H' s'/\pj i s'.heap/\(∀ b∈fp,H' b=none)/\W i m τ H':=λ{s' H' m'} J hm w'=>by
    walk_at"j";walk_at"bj";walk_at"ax"
   cases ok with
   |false =>rw[if_neg hU] at q9 ⊢;obtain⟨m',hm,w'⟩:=ND _ _ q9;exact again I9 hm w'
   |true =>rw[if_pos rfl] at q9 ⊢;refine bX (he _ _ _ _ _ s9 mP H9 _ I9 q9) λx9 NH b6=>L2.fe b6 λv10 DH NJ ER NM=>?_;obtain⟨ys,m',hH,hz,hm,w'⟩:=NC _ _ _ NM;refine bX (Sf _ NH mP DH (.ref D) [v10] (.ref D) [x9] (λ_ H'=>H'=upd DH D (.lst (ys++[v10]))) NJ rfl (.cons ER .nil) ⟨D,ys,v10,rfl,rfl,hH,hz,rfl⟩) λ_ s11 b6=>L2.fe b6 λ_ H11 NR _ NS=>?_;subst NS;exact again NR hm w'
 walk_at"c"
theorem DW{a0:Addr}{oe:Obj}{tl:TE}(hd:X.A.handled=some (.ref a0))(hp:(a0,oe)∈X.pn)(ho:∃ vs,oe.data=.fields vs/\vs[2]? = some .none)(hi:PE X iter tl)(O:cG X scope tn cn ix)(hg:∀ C fp cf cq,PG (aJ X scope C (tn++cn) fp cf cq) tg g) (mI:∀ C fp cf cq,tS (aJ X scope C (tn++cn) fp cf cq) ifs tc) (he:∀ C fp cf cq,PE (aJ X scope C (tn++cn) fp cf cq) elt te)(hs:∀ x,foldedSetIterable iter X.env x=pure x:=by intro _;rfl):PE X (.ListComp elt [⟨tg,iter,ifs,0⟩] scope pos) (qO (L6 X.K tl) g tc te tn.length ix):=by
 obtain⟨vs,hv,h2⟩:=ho;walk_at"x";rw[eval_ListComp];refine A_ (use:=none) (P:=EP X pins σ Q) hd hp hv h2 hi O hg mI he hs I h λC D m H5 s6 r J6 hn hf ⟨_,g1,_,g3,g4,g5⟩ qn=>⟨m,hn,λh' HP=>⟨.ref D,H5,?_,rfl,qn⟩⟩
 walk_at"A"
end
end L2
namespace L2.Q
open PySem PySem.Spec PyProof.Rows
section
variable {X:Cx}{K:PySem.W.Frag}
theorem Dn{te:WE}{σ:St}{H:Hp}{R:It->Hp->Prop}(hx:Ta K (iT te) σ H R):L6 K (sd K te) σ H R:=iq hx λHs ρ ag Q sr h k=>⟨Hs,ρ,ag,_,sr,h,λv H1 ay m d As g1 r1 f1 q1=>by
 walk_at"B"
 cases r with
 |list z s rs=>exact⟨_,rfl,⟨_,s⟩,k _ H1 ay _ g1 (.list (tH s rs)) (by rw[rs.length];exact z) q1⟩
 |_=>exact q1.elim⟩
theorem GX{a0 C0:Addr}{oe:Obj}{tg iter elt:Expr}{ifs:List Expr}{scope:Scope}{pos:Pos}{g:WG}{tc:WT}{tl te:WE}{tn cn:List Str}{ix:List Nat}(hd:X.A.handled=some (.ref a0))(hp:(a0,oe)∈X.pn)(ho:XO C0 oe)(hi:QE X K iter tl)(O:cG X scope tn cn ix)(hg:∀ C fp cf cq,QG (aJ X scope C (tn++cn) fp cf cq) K tg g) (mI:∀ C fp cf cq,Pw (aJ X scope C (tn++cn) fp cf cq) K ifs tc) (he:∀ C fp cf cq,QE (aJ X scope C (tn++cn) fp cf cq) K elt te) (hK:X.K=K:=by rfl) (hs:∀ x,foldedSetIterable iter X.env x=pure x:=by intro _;rfl):QE X K (.ListComp elt [⟨tg,iter,ifs,0⟩] scope pos) (jB (iT tl) g tc te tn.length ix):=by
 subst hK;exact PE.imp (DW hd hp ho.2 hi O hg mI he hs) λσ H Qv h=>Dn (uF h)
end
namespace R
theorem Ni{m m':Md}{i j:Bool}{Q:Md->L2.Q.D->Prop}:nh m (.bl i) m' (.bl j) Q=Q .sh (.bl (!decide (i=j))):=rfl
end R
end L2.Q
local macro_rules | `(tactic| walk_at "q") => do
 let nm (s:String):Lean.Ident:=Lean.mkIdent ((s.splitOn ".").foldl Lean.Name.mkStr .anonymous)
 let ds ← ("KQ Nx Ly Oe Kw Nb Nt PN Od NT K7 Oz Pn Qk Ml Kv Nu Nh Ny Nm Ob Ol Py Ox Nv Np lU' Mq Qg QC PX Qz Qw Qh Q4 Oj NK QK Qt O7 Ou Jg Mt Kq Mp Ql Ot wB_ Qm QJ kz' PL Qq Lz MP wC_ kB' kC' LC Oa QX Kp Mv K1 NQ Ph Ng O6 QF Px QL N6 Mz Mh LK KD Ms K3 LR Lr NB N7 Nq M8 N_ Oq Ow Om M9 Pu Qf Q0 O9 N8 Pr QD Q3 Qp NP Oi Ib KZ Ia Qy Ni QV Qs Qc Q5 Qj QH PQ Qa Pk Pq Oc Og N5 O3 Nz QQ KR La Mx kD' Km Pg Oh Qu Qx PJ O1 Lq MT kE' Kl Q6 KY Lx Qe P_ O_ P0 M7 NZ Nj OD Ma Ko Ks Ku gN_ Nf Nk O5 MJ MK MN Mj Mw OJ M_ Qn Qi Pz Pb Nr Ov PB QR Qo QZ O4 K9 Mm Mu Oo O8 lN'".splitOn " ").toArray.mapM fun s=>`(Lean.Parser.Tactic.simpLemma| ↓$(nm ("L2.Q.R." ++ s)):ident)
 let us ← ("L2.Q.Tf L2.Q.FE L2.Q.yt L2.Q.G9 L2.Q.uj L2.Q.E7 L2.Q.DS L2.Q.uk L2.Q.oF L2.Q.OZ L2.Q.OY L2.Q.Vt L2.Q.qp L2.Q.DY L2.Q.asg L2.Q.n5 L2.Q.aX L2.Q.D.flat L2.Q.cS L2.Q.D.S9 L2.Q.D.ty L2.Q.S4 L2.Q.D.key1 L2.Q.iC L2.Q.BJ L2.Q.Pa List.length_map List.map_cons List.map_nil List.length_cons List.length_nil List.replicate_succ List.replicate_zero List.cons_append List.nil_append List.append_nil List.getElem?_cons_zero List.getElem?_cons_succ List.getElem?_nil List.set_cons_zero List.set_cons_succ List.all_cons List.all_nil Option.some.injEq Option.join_some Option.map_some Option.map_none Nat.reduceAdd Nat.reduceSub true_and and_true Bool.and_true Bool.true_and Bool.and_false Bool.false_and Bool.not_true Bool.not_false Bool.false_eq_true if_true if_false decide_true decide_false reduceIte cond_true cond_false PySem.sizeLine_eq L2.Q.Tg L2.Q.kw' L2.Q.kx' L2.Q.au L2.Q.J7 L2.Q.empty_app Nat.zero_add exists_eq_left' Int.reduceLT Int.reduceLE Int.reducePow Int.reduceNeg Int.reduceToNat Int.reduceAdd Int.reduceMul Int.reduceSub Nat.reduceLeDiff Nat.reduceLT false_or or_false and_self L2.Pj".splitOn " ").toArray.mapM fun s=>`(Lean.Parser.Tactic.simpLemma| $(nm s):ident)
 let as:Lean.TSyntaxArray [`Lean.Parser.Tactic.simpStar,`Lean.Parser.Tactic.simpErase,`Lean.Parser.Tactic.simpLemma]:=(ds++us).map fun x=>⟨x.raw⟩
 `(tactic| simp -dsimp only [$as,*])
namespace L2.Q.Wc
open PySem PySem.Spec PyProof.Rows
def isLet(c:Nat):Bool:=decide (97<=c/\c<=122)
abbrev abc:Str := "abcdefghijklmnopqrstuvwxyz"
theorem Dy:sg abc=(List.range 26).map (97 + ·):=by decide +kernel
def lets(x:Str):Prop:=∀ c∈sg x,isLet c=true
def Open(x:Str):Prop:=1<=x.length/\x.length<=6/\lets x
def vE (x:Str):Prop:=x = "*"\/Open x
theorem vE.ok{x:Str}(h:vE x):PyData.strOk x=true:=by
 rw[zE];rcases h with rfl|h
 ·have:sg "*" = [42]:=by decide +kernel
  intro c hc;rw[this] at hc;have:c=42:=by simpa using hc
  lia
 ·intro c hc;have:=h.2.2 c hc;simp[isLet] at this;lia
theorem Ax:∀ (l:List Str),cS (l.map D.str)=true
 |[]=>rfl
 |x :: l=>by simp[cS,Ax l,D.flat]
theorem oK:∀ (l:List Int),cS (l.map D.int)=true
 |[]=>rfl
 |x :: l=>by simp[cS,oK l,D.flat]
theorem wY(l:List Str)(x:Str):l.map D.str++[D.str x]=(l++[x]).map D.str:=by simp
theorem Hl{n i:Nat}{lo:Int}{x:D}(h:(yI lo n)[i]? = some x):i<n/\x=.int (lo+(i:Nat)):=by
 unfold yI at h;rw[lI] at h;by_cases hi:i<n
 ·rw[List.getElem?_range hi] at h;exact⟨hi,(Option.some.inj h).symm⟩
 ·rw[BU (by simpa using hi)] at h;cases h
theorem Dj(lo:Int)(n:Nat):(yI lo n).length=n:=by simp[yI]
abbrev cp:=Int × Str × Int
def iE(s:cp):List Key:=[.inl s.1,.inr s.2.1,.inl s.2.2]
def ft(s:cp):D:=.tup [.int s.1,.str s.2.1,.int s.2.2]
def mD(many:Int)(steps:List cp):D:=.tup [.int many,.list (steps.map ft)]
theorem Ab:∀ (l:List cp),cS (l.map ft)=true
 |[]=>rfl
 |x :: l=>by simp[cS,Ab l,ft,D.flat]
def Wd(many:Int)(s:cp):Prop:=0<=s.1/\s.1<many/\vE s.2.1/\0<=s.2.2/\s.2.2<many
theorem Iw{many:Int}{s:cp}(n:Nat)(h:Wd many s):cv (n+1) (ft s)=true:=by have:=h.2.2.1.ok;simp[cv,ft,this]
theorem Gp{many:Int}{l:List cp}(n:Nat)(h:∀ s∈l,Wd many s):cv (n+2) (.list (l.map ft))=true:=by simp only[cv,Rr,xt];intro s hs;exact Iw n (h s hs)
theorem lZ'{many:Int}{l:List cp}(n:Nat)(h:∀ s∈l,Wd many s):cv (n+3) (mD many l)=true:=by have h2:=Gp n h;show(cv (n+2) (.int many) && (cv (n+2) (.list (l.map ft)) && true))=true;rw[h2];rfl
theorem Bx:∀ (l:List cp),A9 (l.map ft)=true
 |[]=>rfl
 |x :: l=>by simp[A9,Bx l,ft,D.nb]
theorem ma'(many:Int)(l:List cp):(mD many l).nb=true:=by simp[mD,D.nb,A9,Bx]
theorem eq_self{x:D}(h:x.nb=true):kg x x=true:=(Ak x x h h).mpr rfl
theorem lX{s t:cp}(h:iE s=iE t):s=t:=by obtain⟨a,b,c⟩:=s;obtain⟨a',b',c'⟩:=t;simp[iE] at h;obtain⟨rfl,rfl,rfl⟩:=h;rfl
def i3(s t:cp):Bool:=gv (iE s) (iE t)
theorem tD{P:cp->Prop}:∀ {ks:List (List Key)},(∀ k∈ks,∃ s,k=iE s/\P s)->∃ l:List cp,ks=l.map iE/\∀ s∈l,P s
 |[],_=>⟨[],rfl,λs h=>nomatch h⟩
 |k :: ks,h=>by
  obtain⟨s,rfl,p⟩:=h k dv;obtain⟨l,rfl,q⟩:=tD λk hk=>h k (cK _ hk);refine⟨s :: l,rfl,λt ht=>?_⟩;rcases dc.mp ht with rfl|ht
  ·exact p
  ·exact q t ht
abbrev Kn:=List (List Key × D)
def xl(P:cp->Prop)(ae:Kn):Prop:=(∀ p∈ae,∃ s,p.1=iE s/\P s)/\(ae.map (·.1)).Nodup
theorem oJ{κ β:Type}[DecidableEq κ](ae:List (κ × β))(k:κ)(v:β):(kG ae k v).map (·.1)=if k∈ae.map (·.1) then ae.map (·.1) else ae.map (·.1)++[k]:=by
 unfold kG;by_cases h:k∈ae.map (·.1)
 ·have:(ae.any λkv=>decide (kv.1=k))=true:=by obtain⟨p,hp,e⟩:=de.mp h;exact List.any_eq_true.mpr ⟨p,hp,decide_eq_true e⟩
  rw[if_pos this,if_pos h,mz];apply D5;intro p _;show(if p.1=k then (p.1,v) else p).1=p.1;split<;>rfl
 ·have:¬ (ae.any λkv=>decide (kv.1=k))=true:=by intro z;obtain⟨p,hp,e⟩:=List.any_eq_true.mp z;exact h (de.mpr ⟨p,hp,of_decide_eq_true e⟩)
  rw[if_neg this,if_neg h,D8];rfl
theorem xl.put{P:cp->Prop}{ae:Kn}{s:cp}{d:D}(h:xl P ae)(hs:P s):xl P (kG ae (iE s) d):=by
 refine⟨λp hp=>?_,?_⟩
 ·rcases rG hp with e|e
  ·exact⟨s,e,hs⟩
  ·obtain⟨q,hq,e⟩:=de.mp e;rw[<- e];exact h.1 q hq
 ·rw[oJ];split
  ·exact h.2
  ·rename_i hn;exact hJ.mpr ⟨h.2,by simp,λa ha b hb e=>by
    have:b=iE s:=by simpa using hb
    subst this;subst e;exact hn ha⟩
theorem xl.nil{P:cp->Prop}:xl P []:=⟨(λp hp=>nomatch hp),kA⟩
theorem xl.sorted{P:cp->Prop}{ae:Kn}(h:xl P ae){Q:Md->D->Prop}(k:∀ steps:List cp,(steps.map iE).Perm (ae.map (·.1))->(∀ s∈steps,P s)->steps.Pairwise (λa b=>i3 a b=true)->steps.length=ae.length->Q (.ow true) (.list (steps.map ft))) :
  BJ (.ow true) (.list (ae.map λkv=>.tup (kv.1.map oD))) Q:=by
 refine⟨ae.map (·.1),[false,true],by rw[mz];rfl,λk hk=>?_,λms pm pw=>?_⟩
 ·obtain⟨p,hp,rfl⟩:=de.mp hk;obtain⟨s,e,_⟩:=h.1 p hp;rw[e];rfl
 ·obtain⟨l,rfl,hl⟩:=tD (P:=P) (ks:=ms) λk hk=>by obtain⟨p,hp,e⟩:=de.mp (pm.mem_iff.mp hk);rw[<- e];exact h.1 p hp
  have e:(l.map iE).map sF=l.map ft:=by rw[mz];rfl
  rw[e];refine k l pm hl ?_ (by have:=pm.length_eq;simpa using this);have nd:(l.map iE).Nodup:=pm.nodup_iff.mpr h.2;rw[wa] at pw;have nd':l.Pairwise λa b=>iE a≠iE b:=by rw[List.Nodup,wa] at nd;exact nd
  refine(pw.and nd').imp λ{a b} ⟨h1,h2⟩=>?_;unfold i3
  cases h3:gv (iE a) (iE b) with
  |true=>rfl
  |false=>exact absurd (rQ (a:=iE a) (b:=iE b) rfl h3 h1) h2
theorem vz{α:Type}(l:List α):l.filter (λ_=>true)=l:=Ua.mpr λ_ _=>rfl
def gG (x:Str):Bool:=(decide (1<=x.length/\x.length<=6) && (sg x).all isLet) || decide (x = "*")
theorem qi{x:Str}:gG x=true↔vE x:=by
 unfold gG vE Open lets;simp only[Bool.or_eq_true,i7,decide_eq_true_eq,xt];constructor
 ·rintro(⟨⟨h1,h2⟩,h3⟩|h)
  ·exact .inr ⟨h1,h2,h3⟩
  ·exact .inl h
 ·rintro(h|⟨h1,h2,h3⟩)
  ·exact .inr h
  ·exact .inl ⟨⟨h1,h2⟩,h3⟩
def FG(steps out:List cp):Prop:=out.Nodup/\(∀ s,s∈out↔s∈steps)/\(out.Pairwise λa b=>i3 b a=false)
theorem dI{α β:Type}{f:α->β}{l:List α}(h:(l.map f).Nodup):l.Nodup:=by rw[List.Nodup,wa] at h;exact h.imp λFh e=>Fh (by rw[e])
def yB(steps:List cp):List Str:=steps.map (·.2.1)
def pW (steps:List cp) (k:Nat):Prop:=∃ l:List Str,l.Nodup/\(∀ n,n∈l↔n∈yB steps/\n ≠ "*")/\l.length=k
def zf(steps:List cp)(c:Nat):Prop:=∃ l:List cp,l.Nodup/\(∀ s,s∈l↔s∈steps)/\l.length=c
theorem xJ{α:Type}[DecidableEq α]{l m:List α}(h1:l.Nodup)(h2:m.Nodup)(h:∀ x,x∈l↔x∈m):l.length=m.length :=
 LD (TS.cR h1 λx hx=>(h x).mp hx) (TS.cR h2 λx hx=>(h x).mpr hx)
theorem pW.uniq{steps:List cp}{j k:Nat}(a:pW steps j)(b:pW steps k):j=k:=by obtain⟨l,n1,m1,rfl⟩:=a;obtain⟨m,n2,m2,rfl⟩:=b;exact xJ n1 n2 λx=>(m1 x).trans (m2 x).symm
theorem zf.uniq{steps:List cp}{j k:Nat}(a:zf steps j)(b:zf steps k):j=k:=by obtain⟨l,n1,m1,rfl⟩:=a;obtain⟨m,n2,m2,rfl⟩:=b;exact xJ n1 n2 λx=>(m1 x).trans (m2 x).symm
theorem pW.same{steps out:List cp}{k:Nat}(h:∀ s,s∈out↔s∈steps)(a:pW steps k):pW out k:=by
 obtain⟨l,n1,m1,e⟩:=a;refine⟨l,n1,λn=>(m1 n).trans ?_,e⟩;have:n∈yB steps↔n∈yB out:=by unfold yB;simp only[de];exact⟨λ⟨s,hs,e⟩=>⟨s,(h s).mpr hs,e⟩,λ⟨s,hs,e⟩=>⟨s,(h s).mp hs,e⟩⟩
 rw[this]
def TL(many:Int)(c k:Nat):Prop:=many<=20/\c<=80/\k<=6
def pI(c:Nat):Bool:=decide (48<=c/\c<=57)
def dM (x:Str):Bool:=decide (1<=x.length/\x.length<=4) && ((sg x).all pI && (decide (x = "0") || !decide ((sg x)[0]? = some 48)))
def valN(x:Str):Int:=(intText? x).getD 0
theorem h_{x:Str}(h:dM x=true):intText? x=some (valN x)/\0<=valN x:=by
 unfold dM at h;simp only[i7,decide_eq_true_eq,xt] at h;have:=intText_digits (x:=x) (λc hc=>by have:=h.2.1 c hc;simpa[pI] using this) (λz=>by
  have:=h.1.1;rw[cz] at this;unfold sg at this;rw[z] at this;simp at this) (by lia)
 unfold valN;rw[this];exact⟨rfl,by simp⟩
theorem nQ{x:Str}(h:dM x=true):x.length<=4:=by unfold dM at h;simp only[i7,decide_eq_true_eq] at h;exact h.1.2
def BV:List Str->Option cp
 |[a,d,b]=>if dM a && (gG d && dM b) then some (valN a,d,valN b) else none
 |_=>none
def gJ (x:Str):Option cp:=BV (Txt.split x " ")
def allOf:List Str->Option (List cp)
 |[]=>some []
 |p :: ps=>(gJ p).bind λs=>(allOf ps).map (s :: ·)
def restOf (r:Str):Option (List cp):=if r = "" then some [] else if (sg r)[0]? = some 32 then allOf (Txt.split (gu r (some 1) none) ", ") else none
def pH (t:Str):Option (Str × Str):=match Txt.split t ":" with
 |p :: q :: r=>some (p,Str.join ":" (q :: r))
 |_=>none
def kZ(t:Str):Option (Int × List cp):=(pH t).bind λp=>if dM p.1 then (restOf p.2).map λl=>(valN p.1,l) else none
def BM(l:List cp):Prop:=l.length<=1000/\∀ s∈l,0<=s.1/\vE s.2.1/\0<=s.2.2
theorem Hq{x:Str}{s:cp}(h:gJ x=some s):0<=s.1/\vE s.2.1/\0<=s.2.2:=by
 unfold gJ BV at h;split at h
 ·split at h
  ·next c =>
   simp only[i7] at c;cases h;exact⟨(h_ c.1).2,qi.mp c.2.1,(h_ c.2.2).2⟩
  ·cases h
 ·cases h
theorem zr:∀ {ps:List Str} {l:List cp},allOf ps=some l->l.length=ps.length/\∀ s∈l,0<=s.1/\vE s.2.1/\0<=s.2.2
 |[],l,h=>by cases h;exact⟨rfl,λs hs=>nomatch hs⟩
 |p :: ps,l,h=>by
  unfold allOf at h;obtain⟨s,e1,h⟩:=Option.bind_eq_some_iff.mp h;obtain⟨m,e2,rfl⟩:=RL.mp h;obtain⟨a,b⟩:=zr e2;refine⟨by simp[a],λt ht=>?_⟩;rcases dc.mp ht with rfl|ht
  ·exact Hq e1
  ·exact b t ht
theorem qH(y:Str):∀ (p:Str) (ps:List Str),y.length*ps.length<=(Str.join y (p :: ps)).length
 |p,[]=>by simp
 |p,q :: ps=>by
  have ih:=qH y q ps;have:=xj y p q ps;have e:(Str.join y (p :: q :: ps)).length=p.length+(y.length+(Str.join y (q :: ps)).length):=by rw[cz,this,kK,kK,<- cz,<- cz,<- cz]
  rw[e,oP,Nat.mul_add,Nat.mul_one];lia
theorem oA {x:Str}:2*(Txt.split x ", ").length<=x.length+2:=by
 have h:=PySem.StrLaws.join_split x ", "
 cases e:Txt.split x ", " with
 |nil=>simp
 |cons p ps =>have:=qH ", " p ps;rw[e] at h;rw[h,show((", " : Str)).length=2 by decide +kernel] at this;rw[oP];lia
theorem wO{r:Str}{l:List cp}(hr:r.length<=1990)(h:restOf r=some l):BM l:=by
 unfold restOf at h;split at h
 ·cases h;exact⟨by simp,λs hs=>nomatch hs⟩
 ·split at h
  ·obtain⟨a,b⟩:=zr h;have:=oA (x:=gu r (some 1) none);have:=lZ r (some 1) none;exact⟨by lia,b⟩
  ·cases h
theorem rE {t h r:Str} (e:pH t=some (h,r)):t=h ++ ⟨#[58]⟩++r/\58∉sg h/\Txt.split t ":"≠[]/\(Txt.split t ":")[0]? = some h:=by
 unfold pH at e;split at e
 ·next p q rs es =>
  cases e;have j:=PySem.StrLaws.join_split t ":";have c:(":" : Str)=⟨#[58]⟩:=by decide +kernel
  rw[es] at j;refine⟨j.symm.trans (by rw[c];rfl),?_,by rw[es];simp,by rw[es];rfl⟩;have:=PySem.StrLaws.split_free t 58 h (by rw[<- c,es];simp);exact this
 ·cases e
theorem xU {t:Str} (e:pH t=none):58∉sg t/\Txt.split t ":" = [t]:=by
 unfold pH at e;have j:=PySem.StrLaws.join_split t ":";have c:(":" : Str)=⟨#[58]⟩:=by decide +kernel
 have ne:=CP t ":"
 cases es:Txt.split t ":" with
 |nil=>exact absurd es ne
 |cons p ps =>
  rw[es] at e j
  cases ps with
  |cons q ps=>cases e
  |nil =>have j:p=t:=j;subst j;exact⟨PySem.StrLaws.split_free p 58 p (by rw[<- c,es];simp),rfl⟩
theorem vp{t h r:Str}(e:pH t=some (h,r)):t.length=h.length+1+r.length:=by rw[(rE e).1,au,au];rfl
theorem Aq{t h r:Str}(e:t=h ++ ⟨#[58]⟩++r):gu t (some ((h.length:Int)+1)) none=r:=kI (by
 have hl:t.length=h.length+1+r.length:=by rw[e,au,au];rfl
 unfold gu;rw[List.toList_toArray];show List.take _ (List.drop _ (sg t))=sg r;rw[show HT.bI t.length 0 (some ((h.length:Int)+1))=h.length+1 by simp only[HT.bI];rw[if_neg (by lia)];lia,e,iG,iG];have e2:List.drop (h.length+1) (sg h++sg (⟨#[58]⟩:Str)++sg r)=sg r:=by rw[List.drop_append_of_le_length (by rw[kK,<- cz,<- cz];exact bE _),List.drop_of_length_le (by rw[kK,<- cz,<- cz];exact bE _)];rfl
 rw[e2];refine FL ?_;rw[<- cz,<- e];simp only[HT.bI];lia)
theorem Kr{t:Str}{many:Int}{l:List cp}(ht:t.length<=1990)(h:kZ t=some (many,l)):BM l/\0<=many:=by
 unfold kZ at h;obtain⟨⟨a,r⟩,e,h⟩:=Option.bind_eq_some_iff.mp h;split at h
 ·next c =>
  obtain⟨m,e2,e3⟩:=RL.mp h;cases e3;have:=vp e;exact⟨wO (by dsimp only;lia) e2,(h_ c).2⟩
 ·cases h
theorem Hb {c:Nat}:ua ⟨#[c]⟩ "0123456789" = pI c:=by
 rw[rA,show("0123456789" : Str).cps.toList=(List.range 10).map (48 + ·) by decide +kernel,y2];simp only[decide_eq_true_eq,pI,de,rq];constructor
 ·rintro⟨i,hi,rfl⟩;lia
 ·intro h;exact⟨c-48,by lia,by lia⟩
theorem wz{x:Str}(h:1<=x.length):∃ c r,sg x=c :: r:=by
 cases es:sg x with
 |nil=>rw[cz,es] at h;simp at h
 |cons c r=>exact⟨c,r,rfl⟩
theorem zO{c d:Nat}:decide ((⟨#[c]⟩:Str)=⟨#[d]⟩)=decide (c=d):=by
 by_cases h:c=d
 ·rw[h];simp
 ·rw[decide_eq_false h,decide_eq_false λz=>h (by cases z;rfl)]
theorem Fg(a d b:Str):BV [a,d,b]=if dM a && (gG d && dM b) then some (valN a,d,valN b) else none:=rfl
theorem xP{ws:List Str}(h:ws.length≠3):BV ws=none:=by
 unfold BV;split
 ·exact absurd rfl h
 ·rfl
theorem Ey:(" " : Str)=⟨#[32]⟩:=by decide +kernel
theorem x_:(":" : Str)=⟨#[58]⟩:=by decide +kernel
theorem CK:("0" : Str)=⟨#[48]⟩:=by decide +kernel
def yT(many:Int)(s:cp):Prop:=(0<=s.1/\s.1<many)/\0<=s.2.2/\s.2.2<many
instance (many:Int) (s:cp):Decidable (yT many s):=inferInstanceAs (Decidable (_/\_))
def uI(many:Int)(l:List cp):Prop:=1<=many/\∀ s∈l,yT many s
def P7(many:Int)(l:List cp)(QM QB:Prop)(QO:Int->List cp->Prop):Prop:=(¬ uI many l->QM)/\(uI many l->∀ c k,zf l c->pW l k->(¬ TL many c k->QB)/\(TL many c k->∀ out,FG l out->QO many out))
def FH(d:D):Prop:=(∃ t:Str,d=.str t/\t.length<=1990)\/d=.non\/(∃ i,d=.int i)\/∃ x:Str,d=.list [.str x]
def TN:D->Option (Int × List cp)
 |.str t=>kZ t
 |_=>none
def ev'(d:D)(QT QM QB:Prop)(QO:Int->List cp->Prop):Prop:=FH d/\(TN d=none->QT)/\∀ many l,TN d=some (many,l)->BM l->P7 many l QM QB QO
def oN:WS :=
 (b5 (eW (qV (md (wB (dr (z5 "str") (av 0)))) (md (wB (gh oB oB (wC (.int 1)) (dr gS (av 0)) (wC (.int 6))))))
 (eP (wC (.bl false)))
 bx)
 (eP (dr Ti (jB (wU (av 0)) (gN 0) E9 (ax (z0 false) (av 0) (wC (.str "abcdefghijklmnopqrstuvwxyz"))) 1 []))))
theorem F_{c:Nat}:ua ⟨#[c]⟩ abc=isLet c:=by
 rw[rA];have:abc.cps.toList=(List.range 26).map (97 + ·):=Dy;rw[this];apply y2.mpr;simp only[decide_eq_true_eq,isLet,de,rq];constructor
 ·rintro⟨i,hi,rfl⟩;lia
 ·intro h;exact⟨c-97,by lia,by lia⟩
def b_:eA:=λds Q=>∃ x:Str,ds=[.str x]/\Q .sh (.bl (decide (1<=x.length/\x.length<=6) && (sg x).all isLet))
theorem wH (ds Q) (h:b_ ds Q):ds.length=["thing"].length:=by obtain⟨_,rfl,_⟩:=h;rfl
theorem z_:∀ ds Q,b_ ds Q->oN { nx:=λ_=>Q .sh .non,rt:=Q } (aX 1 ds):=by
 walk_at"aS";unfold oN;walk_at "q";refine R.F rfl ?_;walk_at "q";refine R.D (λh1=>?_) λh1=>?_
 ·walk_at "q";refine R.B (λh2=>?_) λh2=>?_;rotate_left
  ·have h2:x.length<=6:=by simp at h2;lia
   walk_at "q"
   refine dR (λ_=>true) (λd=>match d with
    |.str z=>.bl (ua z abc)
    |d=>d) (λρ=>∃ o,ρ=[o]) _ _ _ ⟨_,rfl⟩ ?_ ?_
   ·rintro y hy ρ ⟨o,rfl⟩ N1 N2 _ h2;obtain⟨c,hc,rfl⟩:=de.mp hy;walk_at "q";walk_at"aO"
   ·rw[vz];refine⟨(sg x).map isLet,?_,?_⟩
    ·unfold IJ;rw[mz,mz];refine D5 λc _=>?_;show D.bl (ua ⟨#[c]⟩ abc)=_;rw[F_];rfl
    ·rw[decide_eq_true (by lia),EB] at h;rw[Rr];exact h
  ·have h2:¬ x.length<=6:=by simp at h2;lia
   walk_at "q";rw[decide_eq_false (by lia),GH] at h;exact h
 ·walk_at "q";rw[decide_eq_false (by lia),GH] at h;exact h
def jL:WS :=
 (eP (rP (dr (z5 "int") (av 0)) (Cw (dr (z5 "bool") (av 0)))))
def bO:eA:=λds Q=>∃ d:D,ds=[d]/\Q .sh (.bl (decide (d.ty = "int")))
theorem uE (ds Q) (h:bO ds Q):ds.length=["thing"].length:=by obtain⟨_,rfl,_⟩:=h;rfl
theorem yG:∀ ds Q,bO ds Q->jL { nx:=λ_=>Q .sh .non,rt:=Q } (aX 1 ds):=by
 rintro ds Q ⟨d,rfl,h⟩;unfold jL;walk_at "q";cases d<;>first
  | (refine R.F rfl ?_;walk_at "q";exact h)
  | (refine R.T rfl ?_;walk_at "q";first|exact h|(refine R.T rfl ?_;walk_at "q";exact h)|(refine R.F rfl ?_;walk_at "q";exact h))
def jQ:WS :=
 (eP (dr jw (jB (iT (ax eB (av 0) (wC (.int 1)))) (gN 0) E9 (ax eB (av 0) (wC (.int 1))) 1 [])))
def cN:eA:=λds Q=>∃ (many:Int) (steps:List cp),ds=[mD many steps]/\steps.length<=1000/\∀ names:List Str,names.Nodup->(∀ n,n∈names↔n∈yB steps)->Q (.ow true) (.list (names.map .str))
theorem uf (ds Q) (h:cN ds Q):ds.length=["m"].length:=by obtain⟨_,_,rfl,_⟩:=h;rfl
theorem yV:∀ ds Q,cN ds Q->jQ { nx:=λ_=>Q .sh .non,rt:=Q } (aX 1 ds):=by
 rintro ds Q ⟨many,steps,rfl,hz,h⟩;unfold jQ mD;walk_at "q"
 refine dR (λ_=>true) (λd=>match d with
  |.tup [.int p,.str d,.int r]=>.str d
  |d=>d) (λρ=>∃ o,ρ=[o]) _ _ _ ⟨_,rfl⟩ ?_ ?_
 ·rintro x hx ρ ⟨o,rfl⟩ N1 N2 _ h2;obtain⟨⟨p,d,r⟩,fF,rfl⟩:=de.mp hx;unfold ft;walk_at "q";walk_at"aO"
 ·rw[vz];refine⟨(yB steps).map Sum.inr,false,?_,by simp[yB];exact hz,?_,?_⟩
  ·unfold yB;rw[mz,mz,mz];rfl
  ·intro k hk;obtain⟨x,_,rfl⟩:=de.mp hk;rfl
  ·intro ms nd mm pw;have mM:∀ k∈ms,∃ x,k=Sum.inr x/\x∈yB steps:=λk hk=>by obtain⟨x,hx,rfl⟩:=de.mp ((mm k).mp hk);exact⟨x,rfl,hx⟩
   obtain⟨names,rfl⟩:∃ names:List Str,ms=names.map Sum.inr:=by
    clear nd mm pw
    induction ms with
    |nil=>exact⟨[],rfl⟩
    |cons k ms ih =>obtain⟨x,rfl,_⟩:=mM k dv;obtain⟨l,rfl⟩:=ih λk hk=>mM k (cK _ hk);exact⟨x :: l,rfl⟩
   have e:(names.map (Sum.inr:Str->Key)).map oD=names.map D.str:=by rw[mz];rfl
   rw[e];refine h names (dI nd) λn=>?_;have:=mm (Sum.inr n);walk_at"aI"
def jc:WS :=
 (b5 (eW (md (wB (gh oB oB (wC (.int 1)) (dr gS (av 0)) (wC (.int 4)))))
 (eP (wC (.bl false)))
 bx)
 (b5 (eW (md (wB (dr Ti (jB (wU (av 0)) (gN 0) E9 (ax (z0 false) (av 0) (wC (.str "0123456789"))) 1 []))))
 (eP (wC (.bl false)))
 bx)
 (eP (IH (ax ng (av 0) (wC (.str "0"))) (ax nh (ax eB (av 0) (wC (.int 0))) (wC (.str "0")))))))
def bU:eA:=λds Q=>∃ x:Str,ds=[.str x]/\Q .sh (.bl (dM x))
theorem rR (ds Q) (h:bU ds Q):ds.length=["word"].length:=by obtain⟨_,rfl,_⟩:=h;rfl
theorem vY:∀ ds Q,bU ds Q->jc { nx:=λ_=>Q .sh .non,rt:=Q } (aX 1 ds):=by
 walk_at"aS";unfold jc;unfold dM at h;walk_at "q";refine R.D (λh1=>?_) λh1=>?_;rotate_left
 ·walk_at "q";rw[decide_eq_false (by lia)] at h;exact h
 walk_at "q";refine R.B (λh2=>?_) λh2=>?_
 ·have h2:¬ x.length<=4:=by simp at h2;lia
  walk_at "q";rw[decide_eq_false (by lia)] at h;exact h
 have h2:x.length<=4:=by simp at h2;lia
 rw[decide_eq_true (by lia),EB] at h;walk_at "q"
 refine dR (λ_=>true) (λd=>match d with
  |.str z=>.bl (ua z "0123456789")
  |d=>d) (λρ=>∃ o,ρ=[o]) _ _ _ ⟨_,rfl⟩ ?_ ?_
 ·rintro y hy ρ ⟨o,rfl⟩ N1 N2 _ h2;obtain⟨c,hc,rfl⟩:=de.mp hy;walk_at "q";walk_at"aO"
 rw[vz];refine⟨(sg x).map pI,?_,?_⟩
 ·unfold IJ;rw[mz,mz];refine D5 λc _=>?_;show D.bl (ua ⟨#[c]⟩ "0123456789")=_;rw[Hb];rfl
 rw[Rr,show((λb=>b) ∘ pI)=pI from rfl]
 cases ef:(sg x).all pI with
 |false =>rw[ef] at h;walk_at "q";exact h
 |true =>
  rw[ef,EB] at h;walk_at "q";refine R.D (λez=>?_) λez=>?_
  ·rw[decide_eq_true ez] at h;walk_at "q";exact h
  rw[decide_eq_false ez] at h;walk_at "q";obtain⟨c,r,er⟩:=wz (x:=x) (by lia);refine⟨c,by show fv (sg x) 0=_;rw[er];exact Tg _ _,?_⟩;rw[er] at h;rw[CK];rw[zO];simpa using h
def fJ:WS :=
 (b5 (eW (wB (ax zS (av 1) (dr gS (av 0))))
 (eP (ax eB (av 0) (av 1)))
 bx)
 (eP (wC (.int 0))))
def aV:eA:=λds Q=>∃ (ns:List Int) (k:Int),ds=[.list (ns.map .int),.int k]/\0<=k/\Q .sh (.int (ns.getD k.toNat 0))
theorem lN (ds Q) (h:aV ds Q):ds.length=["_law_script", "_law_k"].length:=by obtain⟨_,_,rfl,_⟩:=h;rfl
theorem pM:∀ ds Q,aV ds Q->fJ { nx:=λ_=>Q .sh .non,rt:=Q } (aX 2 ds):=by
 rintro ds Q ⟨ns,k,rfl,hk,h⟩;unfold fJ;walk_at "q";refine R.D (λhl=>?_) λhl=>?_
 ·walk_at "q";have hn:k.toNat<ns.length:=by lia
  refine⟨.int ns[k.toNat],?_,?_⟩
  ·have:=Dx (xs:=ns.map D.int) (j:=k.toNat) (v:=.int ns[k.toNat]) (by simp[hn]);rwa[LN hk] at this
  ·show Q .sh _;simpa[List.getD,hn] using h
 ·walk_at "q";have:ns.getD k.toNat 0=0:=by
   have:ns.length<=k.toNat:=by lia
   simp[List.getD,BU this]
  rwa[this] at h
def jb:WS :=
 (b5 (fS 1 (wC (.str " !\"#$&'()*+,-./0123456789:;<=>?@ABCDEFGHIJKLMNOPQRSTUVWXYZ[\\]^_`")))
 (b5 (fS 1 (ax fw (av 1) (wC (.str "abcdefghijklmnopqrstuvwxyz{|}~"))))
 (b5 (eW (wB (ax ng (ax kr (av 0) (wC (.int 2))) (wC (.int 0))))
 (eP (ax eB (wC (.str " ,:0*a")) (ax kr (ax jI (av 0) (wC (.int 2))) (wC (.int 6)))))
 bx)
 (eP (ax eB (av 1) (ax kr (ax jI (av 0) (wC (.int 2))) (wC (.int 94))))))))
theorem Jx{x:Str}{i:Int}(h0:0<=i)(h1:i<x.length):∃ c,fv (sg x) i=some c:=by
 have sl:=cz x;have hn:i.toNat<(sg x).length:=by lia
 refine⟨(sg x)[i.toNat],?_⟩;have:=Dx (xs:=sg x) (j:=i.toNat) (v:=(sg x)[i.toNat]) (by simp[hn]);rwa[LN h0] at this
def bK:eA:=λds Q=>∃ c:Int,ds=[.int c]/\∀ x:Str,x.length=1->Q .sh (.str x)
theorem sX (ds Q) (h:bK ds Q):ds.length=["_law_cell"].length:=by obtain⟨_,rfl,_⟩:=h;rfl
theorem wR:∀ ds Q,bK ds Q->jb { nx:=λ_=>Q .sh .non,rt:=Q } (aX 2 ds):=by
 rintro ds Q ⟨c,rfl,h⟩;unfold jb;walk_at "q";refine⟨by decide +kernel,?_⟩;refine R.D (λe=>?_) λe=>?_
 ·walk_at "q";obtain⟨s,es⟩:=Jx (x := " ,:0*a") (i:=c / 2 % 6) (by lia) (by rw[show((" ,:0*a" : Str).length:Int)=6 by decide +kernel];lia);exact⟨s,es,h _ rfl⟩
 ·walk_at "q";refine(Jx (x:=_) (i:=c / 2 % 94) (by lia) ?_).elim λs es=>⟨s,es,h _ rfl⟩
  rw[au,show((" !\"#$&'()*+,-./0123456789:;<=>?@ABCDEFGHIJKLMNOPQRSTUVWXYZ[\\]^_`" : Str).length)=64 by decide +kernel,show(("abcdefghijklmnopqrstuvwxyz{|}~" : Str).length)=30 by decide +kernel];lia
def gB:WS :=
 (b5 (fS 1 (ax kr (av 0) (wC (.int 8))))
 (b5 (eW (wB (ax ng (av 1) (wC (.int 0))))
 (eP (dr tY (ax kr (ax jI (av 0) (wC (.int 8))) (wC (.int 100000)))))
 bx)
 (b5 (eW (wB (ax ng (av 1) (wC (.int 1))))
 (eP (ax fw (wC (.str "0")) (dr tY (ax kr (ax jI (av 0) (wC (.int 8))) (wC (.int 1000))))))
 bx)
 (eP (dr tY (ax kr (ax jI (av 0) (wC (.int 8))) (wC (.int 4))))))))
theorem str_len{n:Int}{k:Nat}(h0:0<=n)(hk:0<k)(h:n<10 ^ k):(toString n:Str).length<=k:=by show(Str.ofString (toString n)).length<=k;rw[PySem.ofString_length];obtain⟨m,rfl⟩:=Int.eq_ofNat_of_zero_le h0;show m.repr.length<=k;exact(Nat.length_repr_le_iff hk).mpr (by exact_mod_cast h)
theorem jO{n:Int}(h0:0<=n)(h1:n<2 ^ 20):n.natAbs.log2<1920:=by
 have h:n.natAbs<2 ^ 20:=by lia
 rcases Nat.eq_zero_or_pos n.natAbs with z|z
 ·rw[z];decide
 ·exact Ru ((Nat.log2_lt (by lia)).mpr h) (by decide)
theorem ju(s:String):vk (Str.ofString s):=λc hc=>by unfold sg at hc;rw[signs_ofString] at hc;obtain⟨ch,_,rfl⟩:=de.mp hc;have:=ch.valid;unfold UInt32.isValidChar Nat.isValidChar at this;show ch.val.toNat<_;lia
theorem tR{x y:Str}(h:vk x)(g:vk y):vk (x++y):=λc hc=>by rw[iG] at hc;exact(eI.mp hc).elim (h c) (g c)
def bz:eA:=λds Q=>∃ c:Int,ds=[.int c]/\∀ x:Str,x.length<=5->vk x->Q .sh (.str x)
theorem mJ (ds Q) (h:bz ds Q):ds.length=["_law_cell"].length:=by obtain⟨_,rfl,_⟩:=h;rfl
theorem qY:∀ ds Q,bz ds Q->gB { nx:=λ_=>Q .sh .non,rt:=Q } (aX 2 ds):=by
 rintro ds Q ⟨c,rfl,h⟩;unfold gB;walk_at "q";refine R.D (λe=>?_) λe=>?_
 ·walk_at "q";exact⟨jO (by lia) (by lia),h _ (str_len (by lia) (by decide) (by lia)) (ju _)⟩
 walk_at "q";refine R.D (λe=>?_) λe=>?_
 ·walk_at "q";have sl:=str_len (n:=c / 8 % 1000) (k:=3) (by lia) (by decide) (by lia);refine⟨jO (by lia) (by lia),by rw[show("0" : Str).length=1 by decide +kernel];lia,h _ ?_ (tR (ju _) (ju _))⟩;rw[au,show("0" : Str).length=1 by decide +kernel];lia
 ·walk_at "q";have sl:=str_len (n:=c / 8 % 4) (k:=1) (by lia) (by decide) (by lia);exact⟨jO (by lia) (by lia),h _ (by lia) (ju _)⟩
def dJ:WS :=
 (b5 (eW (qV (wB (ax nh (dr gS (jB (wU (av 0)) (gN 0) (wB (gh oB oB (wC (.str "0")) (av 0) (wC (.str "9")))) (av 0) 1 [])) (dr gS (av 0)))) (md (wB (gh oB oB (wC (.int 1)) (dr gS (av 0)) (wC (.int 4))))))
 (eP (wC (.bl false)))
 bx)
 (eP (IH (ax ng (av 0) (wC (.str "0"))) (ax nh (ax eB (av 0) (wC (.int 0))) (wC (.str "0"))))))
theorem ew'(c d:Nat):ov ⟨#[c]⟩ ⟨#[d]⟩=decide (c<d):=by
 show decide ([c] < [d])=_;rw[y2,decide_eq_true_iff,decide_eq_true_iff,List.cons_lt_cons_iff];constructor
 ·rintro(h|⟨_,h⟩)
  ·exact h
  ·exact absurd h (by simp)
 ·exact .inl
theorem tQ{x:List Nat}{p:Nat->Bool}:decide ((((x.filter p).length:Nat):Int)=(x.length:Int))=x.all p:=by
 rw[y2,decide_eq_true_iff,xt];constructor
 ·intro h;exact λc hc=>(Ua.mp ((List.filter_sublist (l:=x) (p:=p)).eq_of_length (by lia))) c hc
 ·intro h;rw[Ua.mpr h]
theorem qG{lo hi:Nat}{x:Str}{k:List D->Prop}{o:Option Sl}(h:k (((sg x).filter λc=>decide (lo<=c/\c<=hi)).map λc=>.str ⟨#[c]⟩)) :
  eN (gN 0) (wB (gh oB oB (wC (.str ⟨#[lo]⟩)) (av 0) (wC (.str ⟨#[hi]⟩)))) (av 0) (IJ x) [o] k:=by
 refine dR (λd=>match d with
  |.str z=>(sg z).all λc=>decide (lo<=c/\c<=hi)
  |_=>false) (λd=>d) (λρ=>∃ o,ρ=[o]) _ _ _ ⟨_,rfl⟩ ?_ ?_
 ·rintro y hy ρ ⟨o,rfl⟩ N1 N2 n1 n2;obtain⟨c,hc,rfl⟩:=de.mp hy;walk_at "q";rw[ew'];by_cases h1:c<lo
  ·rw[decide_eq_true h1];walk_at "q";walk_at"U"
  rw[decide_eq_false h1];walk_at "q";rw[ew'];by_cases h2:hi<c
  ·rw[decide_eq_true h2];walk_at "q";walk_at"U"
  rw[decide_eq_false h2];walk_at "q";exact⟨.inl rfl,n2 _ ⟨_,rfl⟩ (show(decide (lo<=c/\c<=hi) && true)=true by rw[decide_eq_true (by lia)];rfl)⟩
 ·unfold IJ;rw[List.filter_map,List.map_id']
  rw[show((λd=>match d with
   |.str z=>(sg z).all λc=>decide (lo<=c/\c<=hi)
   |_=>false) ∘ λc=>D.str ⟨#[c]⟩)=λc=>decide (lo<=c/\c<=hi) from funext λc=>Bool.and_true _]
  exact h
def aN:eA:=λds Q=>∃ x:Str,ds=[.str x]/\Q .sh (.bl (dM x))
theorem jJ (ds Q) (h:aN ds Q):ds.length=["_law_word"].length:=by obtain⟨_,rfl,_⟩:=h;rfl
theorem M6:("9" : Str)=⟨#[57]⟩:=by decide +kernel
theorem lR:∀ ds Q,aN ds Q->dJ { nx:=λ_=>Q .sh .non,rt:=Q } (aX 1 ds):=by
 walk_at"aS";have sl:=cz x;unfold dJ;unfold dM at h;rw[CK,M6];walk_at "q";refine qG ?_;rw[cE,cz];rw[tQ (p:=λc=>decide (48<=c/\c<=57)),show(sg x).all (λc=>decide (48<=c/\c<=57))=(sg x).all pI from rfl]
 cases ef:(sg x).all pI with
 |false =>rw[ef] at h;walk_at "q";rwa[GH,Bool.and_false] at h
 |true =>
  rw[ef,EB] at h;walk_at "q";refine R.D (λh1=>?_) λh1=>?_;rotate_left
  ·walk_at "q";rw[decide_eq_false (by lia)] at h;exact h
  walk_at "q";refine R.B (λh2=>?_) λh2=>?_
  ·have h2:¬ (sg x).length<=4:=by simp at h2;lia
   walk_at "q";rw[decide_eq_false (by lia)] at h;exact h
  have h2:(sg x).length<=4:=by simp at h2;lia
  rw[decide_eq_true (by lia),EB] at h;walk_at "q";refine R.D (λez=>?_) λez=>?_
  ·rw[decide_eq_true (ez.trans CK.symm)] at h;walk_at "q";exact h
  rw[decide_eq_false λz=>ez (z.trans CK)] at h;walk_at "q";obtain⟨c,r,er⟩:=wz (x:=x) (by lia);refine⟨c,by show fv (sg x) 0=_;rw[er];exact Tg _ _,?_⟩;rw[er] at h;rw[zO];simpa using h
def fO:WS :=
 (b5 (eW (wB (ax ng (av 0) (wC (.str "*"))))
 (eP (wC (.bl true)))
 bx)
 (eP (rP (gh oB oB (wC (.int 1)) (dr gS (av 0)) (wC (.int 6))) (ax ng (dr gS (jB (wU (av 0)) (gN 0) (wB (gh oB oB (wC (.str "a")) (av 0) (wC (.str "z")))) (av 0) 1 [])) (dr gS (av 0))))))
def bC:eA:=λds Q=>∃ x:Str,ds=[.str x]/\Q .sh (.bl (gG x))
theorem lU (ds Q) (h:bC ds Q):ds.length=["_law_word"].length:=by obtain⟨_,rfl,_⟩:=h;rfl
theorem ex':("a" : Str)=⟨#[97]⟩/\("z" : Str)=⟨#[122]⟩:=by decide +kernel
theorem oY:∀ ds Q,bC ds Q->fO { nx:=λ_=>Q .sh .non,rt:=Q } (aX 1 ds):=by
 walk_at"aS";unfold fO;unfold gG at h;rw[ex'.1,ex'.2];walk_at "q";refine R.D (λe=>?_) λe=>?_
 ·walk_at "q";rwa[decide_eq_true e,Bool.or_true] at h
 rw[decide_eq_false e,Bool.or_false] at h;walk_at "q";refine R.D (λh1=>?_) λh1=>?_;rotate_left
 ·walk_at "q";rwa[decide_eq_false (by lia),GH] at h
 walk_at "q";refine R.D (λh2=>?_) λh2=>?_;rotate_left
 ·walk_at "q";rwa[decide_eq_false (by lia),GH] at h
 rw[decide_eq_true (by lia),EB] at h;walk_at "q";refine qG ?_;rw[cE,cz];rw[tQ (p:=λc=>decide (97<=c/\c<=122)),show(sg x).all (λc=>decide (97<=c/\c<=122))=(sg x).all isLet from rfl];exact h
def oR:WS :=
 (eP (IH (cC b_ (ao (av 0) b9)) (rP (dr (z5 "str") (av 0)) (ax ng (av 0) (wC (.str "*"))))))
def cj:eA:=λds Q=>∃ x:Str,ds=[.str x]/\Q .sh (.bl (gG x))
theorem vD (ds Q) (h:cj ds Q):ds.length=["thing"].length:=by obtain⟨_,rfl,_⟩:=h;rfl
theorem Bl:∀ ds Q,cj ds Q->oR { nx:=λ_=>Q .sh .non,rt:=Q } (aX 1 ds):=by
 walk_at"aS";unfold oR;walk_at "q";walk_at"bb";unfold gG at h;walk_at "q";refine R.B (λe=>?_) λe=>?_
 ·walk_at "q";rw[e] at h;exact h
 ·walk_at "q";refine R.T rfl ?_;walk_at "q";rw[e] at h;exact h
def kj:WS :=
 (eP (rP (cC bO (ao (av 1) b9)) (gh oB zS (wC (.int 0)) (av 1) (av 0))))
def cM:eA:=λds Q=>∃ many i:Int,ds=[.int many,.int i]/\Q .sh (.bl (decide (0<=i/\i<many)))
theorem tW (ds Q) (h:cM ds Q):ds.length=["many", "thing"].length:=by obtain⟨_,_,rfl,_⟩:=h;rfl
theorem yL:∀ ds Q,cM ds Q->kj { nx:=λ_=>Q .sh .non,rt:=Q } (aX 2 ds):=by
 rintro ds Q ⟨k,j,rfl,h⟩;unfold kj;walk_at "q";walk_at"bb";walk_at "q";refine R.D (λh1=>?_) λh1=>?_
 ·walk_at "q";rwa[show decide (0<=j/\j<k)=decide (j<k) by simp[h1]] at h
 ·walk_at "q";rwa[decide_eq_false (by lia)] at h
def fM:WS :=
 (b5 (eW (wB (ax DM (ax eB (av 0) (wC (.int 0))) (wC (.int 20))))
 (eY "TooBig" (wC (.str "too many states")))
 bx)
 (b5 (eW (wB (ax DM (dr gS (ax eB (av 0) (wC (.int 1)))) (wC (.int 80))))
 (eY "TooBig" (wC (.str "too many different steps")))
 bx)
 (eW (wB (ax DM (dr gS (jB (iT (cC cN (ao (av 0) b9))) (gN 0) (wB (cC b_ (ao (av 0) b9))) (av 0) 1 [])) (wC (.int 6))))
 (eY "TooBig" (wC (.str "too many different open deeds")))
 bx)))
def bj:eA:=λds Q=>∃ (many:Int) (steps:List cp) (k:Nat),ds=[mD many steps]/\steps.length<=1000/\(∀ s∈steps,vE s.2.1)/\pW steps k/\(TL many steps.length k->Q .sh .non)/\(¬ TL many steps.length k->Q (.ow false) (.str "TooBig"))
theorem lK (ds Q) (h:bj ds Q):ds.length=["m"].length:=by obtain⟨_,_,_,rfl,_⟩:=h;rfl
theorem wW {n:Str} (h:vE n):(decide (1<=n.length/\n.length<=6) && (sg n).all isLet)=true↔n ≠ "*" := by
 rcases h with rfl|h
 ·exact⟨λz=>absurd z (by decide +kernel),λz=>absurd rfl z⟩
 ·refine⟨λ_ e=>?_,λ_=>?_⟩
  ·subst e;have:=h.2.2 42 (by decide +kernel);exact absurd this (by decide)
  ·simp only[i7,decide_eq_true_eq,xt];exact⟨⟨h.1,h.2.1⟩,h.2.2⟩
theorem pL:∀ ds Q,bj ds Q->fM { nx:=λ_=>Q .sh .non,rt:=Q } (aX 1 ds):=by
 rintro ds Q ⟨many,steps,k,rfl,hz,hd,hk,h1,h2⟩;unfold fM mD;walk_at "q";refine R.D (λa=>?_) λa=>?_
 ·walk_at "q";exact h2 λz=>by have:=z.1;lia
 walk_at "q";refine R.D (λb=>?_) λb=>?_
 ·walk_at "q";exact h2 λz=>by have:=z.2.1;lia
 walk_at "q";refine⟨many,steps,rfl,hz,λnames nd mm=>?_⟩;walk_at "q"
 refine dR (λd=>match d with
  |.str x=>decide (1<=x.length/\x.length<=6) && (sg x).all isLet
  |_=>false) (λd=>d) (λρ=>∃ o,ρ=[o]) _ _ _ ⟨_,rfl⟩ ?_ ?_
 ·rintro x hx ρ ⟨o,rfl⟩ N1 N2 n1 n2;obtain⟨n,hn,rfl⟩:=de.mp hx;walk_at "q";walk_at"bb";walk_at "q";try rw[show oW' (.str n)=(decide (1<=n.length/\n.length<=6) && (sg n).all isLet) from rfl]
  cases e:(decide (1<=n.length/\n.length<=6) && (sg n).all isLet) with
  |true =>rw[if_pos rfl];exact⟨.inl rfl,n2 _ ⟨_,rfl⟩ e⟩
  |false =>rw[if_neg hU];exact n1 _ ⟨_,rfl⟩ e
 ·have e1:(names.map D.str).filter (λd=>match d with
    |.str x=>decide (1<=x.length/\x.length<=6) && (sg x).all isLet
    |_=>false)=(names.filter λx=>decide (1<=x.length/\x.length<=6) && (sg x).all isLet).map D.str:=by
   rw[List.filter_map];rfl
  rw[e1,cE,cE];have DI:∀ x∈names,vE x:=λx hx=>by obtain⟨s,fF,e⟩:=de.mp ((mm x).mp hx);rw[<- e];exact hd s fF
  have hl:=hk.uniq ⟨names.filter λx=>decide (1<=x.length/\x.length<=6) && (sg x).all isLet,nd.filter _,λn=>by
   rw[D7,<- mm n];exact⟨λz=>⟨z.1,(wW (DI n z.1)).mp z.2⟩,λz=>⟨z.1,(wW (DI n z.1)).mpr z.2⟩⟩,rfl⟩
  rw[<- hl];refine R.D (λc=>?_) λc=>?_
  ·walk_at "q";exact h2 λz=>by have:=z.2.2;lia
  ·walk_at "q";exact h1 ⟨by lia,by lia,by lia⟩
def gw:WS :=
 (b5 (eW (md (wB (cC bU (ao (av 0) b9))))
 (eY "NoText" (wC (.str "a number is not of the form")))
 bx)
 (eP (dr wK (av 0))))
def aK:eA:=λds Q=>∃ x:Str,ds=[.str x]/\(dM x=true->Q .sh (.int (valN x)))/\(dM x=false->Q (.ow false) (.str "NoText"))
theorem mq (ds Q) (h:aK ds Q):ds.length=["word"].length:=by obtain⟨_,rfl,_⟩:=h;rfl
theorem rF:∀ ds Q,aK ds Q->gw { nx:=λ_=>Q .sh .non,rt:=Q } (aX 1 ds):=by
 rintro ds Q ⟨x,rfl,h1,h2⟩;unfold gw;walk_at "q";walk_at"bb"
 cases e:dM x with
 |true =>walk_at "q";have:=nQ e;exact⟨by lia,_,(h_ e).1,h1 e⟩
 |false =>walk_at "q";exact h2 e
def eZ:WS :=
 (b5 (fS 2 (cC bK (ao (ax jI (av 0) (wC (.int 4))) b9)))
 (b5 (eW (wB (ax ng (ax kr (av 0) (wC (.int 4))) (wC (.int 1))))
 (sN 2 (eP (ax fw (ax fw (ax fw (wC (.str "3:")) (av 2)) (wC (.str "0 ab 2"))) (ax eB (kH (ao (wC (.str ", 1 a 1")) (ao (av 2) b9))) (ax kr (ax jI (av 0) (wC (.int 800))) (wC (.int 2)))))))
 bx)
 (xM 1 (ax kr (ax jI (av 0) (wC (.int 4))) (dr gS (av 1))))))
def fD:WS :=
 (b5 (qF 1 (kH (ao (wC (.str "25: 0 a 25")) (ao (wC (.str "1: 0 a 00000")) (ao (wC .non) (ao (wC (.int 1)) (ao (kH (ao (wC (.str "1:")) b9)) b9)))))))
 eZ)
def eV:WS :=
 (b5 (qF 1 (kH (ao (wC (.str "1: 0 a -0")) (ao (wC (.str "1: 0 a +0")) (ao (wC (.str "1.0:")) (ao (wC (.str "1::")) (ao (wC (.str "1: : 0 a 0")) (ao (wC (.str "0: 0 a 0")) (ao (wC (.str "9999: 9998 a 9999")) (ao (wC (.str "20: 0 a 19")) b9))))))))))
 fD)
def fc:WS :=
 (b5 (qF 1 (kH (ao (wC (.str "1: 0 A 0")) (ao (wC (.str "1: 0 abcdefg 0")) (ao (wC (.str "1: 0 ** 0")) (ao (wC (.str "1: 0  0")) (ao (wC (.str "1: a 0 0")) (ao (wC (.str "1: 0 a 0; 0 b 0")) (ao (wC (.str "2:0 a 1")) b9)))))))))
 eV)
def eX:WS :=
 (b5 (qF 1 (kH (ao (wC (.str "1: 00 a 0")) (ao (wC (.str "0:")) (ao (wC (.str "21:")) (ao (wC (.str "99999:")) (ao (wC (.str "00:")) (ao (wC (.str "1: 0 a 1")) (ao (wC (.str "1_0:")) (ao (wC (.str "+1:")) (ao (wC (.str "-1:")) (ao (wC (.str " 1:")) (ao (wC (.str "1: 0 a 0 ")) b9)))))))))))))
 fc)
def jW:WS :=
 (b5 (fS 1 (kH (ao (wC (.str "")) (ao (wC (.str ":")) (ao (wC (.str " ")) (ao (wC (.str "1")) (ao (wC (.str "1 :")) (ao (wC (.str "1:0 a 0")) (ao (wC (.str "1:  0 a 0")) (ao (wC (.str "1: ")) (ao (wC (.str "01:")) (ao (wC (.str "1: 0 a 0,")) (ao (wC (.str "1: 0 a 0, ")) (ao (wC (.str "1: 0 a 0,0 b 0")) b9))))))))))))))
 eX)
def TQ:D->Bool
 |.str t=>decide (t.length<=1990)
 |.non=>true
 |.int _=>true
 |.list [.str _]=>true
 |_=>false
theorem Im{d:D}(h:TQ d=true):FH d:=by
 unfold TQ at h;split at h
 ·exact .inl ⟨_,rfl,of_decide_eq_true h⟩
 ·exact .inr (.inl rfl)
 ·exact .inr (.inr (.inl ⟨_,rfl⟩))
 ·exact .inr (.inr (.inr ⟨_,rfl⟩))
 ·cases h
theorem J3{L:List D}{i:Int}(h:L.all TQ=true)(h0:0<=i)(h1:i<L.length):∃ d,fv L i=some d/\FH d:=by
 have hn:i.toNat<L.length:=by lia
 refine⟨L[i.toNat],?_,Im (xt.mp h _ (K0 hn))⟩;have:=Dx (xs:=L) (j:=i.toNat) (v:=L[i.toNat]) (by simp[hn]);rwa[LN h0] at this
def dh:eA:=λds Q=>∃ c:Int,ds=[.int c]/\∀ d:D,FH d->Q (FE d) d
theorem uL (ds Q) (h:dh ds Q):ds.length=["_law_cell"].length:=by obtain⟨_,rfl,_⟩:=h;rfl
def BO(n:Nat)(L:List D):Prop:=L.length=n/\L.all TQ=true
theorem BO.add{n m:Nat}{L K:List D}(a:BO n L)(b:BO m K):BO (n+m) (L++K):=⟨by rw[kK,a.1,b.1],by rw[List.all_append,a.2,b.2];rfl⟩
section
variable {Q:Md->D->Prop}{c:Int}{L:List D}(h:∀ d:D,FH d->Q (FE d) d)
include h
theorem Li(B:BO 43 L):eZ { nx:=λ_=>Q .sh .non,rt:=Q } [some (.sh (.int c)),some (.ow true (.list L)),none]:=by
 unfold eZ;walk_at "q";refine⟨_,rfl,λx hx=>?_⟩;walk_at "q";refine R.D (λe=>?_) λe=>?_
 ·walk_at "q";have l3:("3:" : Str).length=2:=by decide +kernel
  have l6:("0 ab 2" : Str).length=6:=by decide +kernel
  have l7:(", 1 a 1" : Str).length=7:=by decide +kernel
  have l8:=au "3:" x;have l9:=au ("3:" ++ x) "0 ab 2";refine⟨by lia,by lia,?_⟩;rcases (show c / 800 % 2=0\/c / 800 % 2=1 by lia) with z|z
  ·rw[z];refine⟨.str ", 1 a 1",rfl,?_⟩;walk_at "q";have:=au ("3:" ++ x ++ "0 ab 2") ", 1 a 1";exact⟨by lia,h (.str _) (.inl ⟨_,rfl,by lia⟩)⟩
  ·rw[z];refine⟨.str x,rfl,?_⟩;walk_at "q";have:=au ("3:" ++ x ++ "0 ab 2") x;exact⟨by lia,h (.str _) (.inl ⟨_,rfl,by lia⟩)⟩
 ·walk_at "q";rw[B.1];obtain⟨d,ed,tx⟩:=J3 (L:=L) (i:=c / 4 % 43) B.2 (by lia) (by rw[B.1];lia);exact⟨by decide,d,ed,h d tx⟩
theorem KC(B:BO 38 L):fD { nx:=λ_=>Q .sh .non,rt:=Q } [some (.sh (.int c)),some (.ow true (.list L)),none]:=by
 obtain⟨w,e⟩:∃ w,w=eZ:=⟨_,rfl⟩
 unfold fD;rw[<- e];walk_at "q";walk_at"aF";rw[e];exact Li h (B.add ⟨rfl,by decide +kernel⟩)
theorem Lf(B:BO 30 L):eV { nx:=λ_=>Q .sh .non,rt:=Q } [some (.sh (.int c)),some (.ow true (.list L)),none]:=by
 obtain⟨w,e⟩:∃ w,w=fD:=⟨_,rfl⟩
 unfold eV;rw[<- e];walk_at "q";walk_at"aF";rw[e];exact KC h (B.add ⟨rfl,by decide +kernel⟩)
theorem Mr(B:BO 23 L):fc { nx:=λ_=>Q .sh .non,rt:=Q } [some (.sh (.int c)),some (.ow true (.list L)),none]:=by
 obtain⟨w,e⟩:∃ w,w=eV:=⟨_,rfl⟩
 unfold fc;rw[<- e];walk_at "q";walk_at"aF";rw[e];exact Lf h (B.add ⟨rfl,by decide +kernel⟩)
theorem Ld(B:BO 12 L):eX { nx:=λ_=>Q .sh .non,rt:=Q } [some (.sh (.int c)),some (.ow true (.list L)),none]:=by
 obtain⟨w,e⟩:∃ w,w=fc:=⟨_,rfl⟩
 unfold eX;rw[<- e];walk_at "q";walk_at"aF";rw[e];exact Mr h (B.add ⟨rfl,by decide +kernel⟩)
end
theorem zb:∀ ds Q,dh ds Q->jW { nx:=λ_=>Q .sh .non,rt:=Q } (aX 3 ds):=by
 rintro ds Q ⟨c,rfl,h⟩;obtain⟨w,e⟩:∃ w,w=eX:=⟨_,rfl⟩
 unfold jW;rw[<- e];walk_at "q";rw[e];exact Ld h ⟨rfl,by decide +kernel⟩
def jo:WS :=
 (b5 (eW (wB (ax nh (av 5) (kH b9)))
 (fS 10 (ax fw (ax fw (av 10) (wC (.str " "))) (xm (wC (.str ", ")) (av 5))))
 bx)
 (vP 10))
def dO:WS :=
 (b5 (fS 10 (ax fw (dr tY (av 2)) (wC (.str ":"))))
 jo)
def dU:WS :=
 (b5 (sN 0 (An (lB (rg (av 0) (gj (wC (.int 6))) (gj (wC (.int 12))))) (gN 8)
 (b5 (fS 9 (ax eB (av 3) (ax kr (ax jI (av 8) (wC (.int 7))) (dr gS (av 3)))))
 (IL (DT 5) (ax fw (ax fw (ax fw (ax fw (cC bz (ao (av 8) b9)) (wC (.str " "))) (av 9)) (wC (.str " "))) (cC bz (ao (ax jI (av 8) (wC (.int 11))) b9)))))))
 dO)
def dW:WS :=
 (b5 (An (xx (ax GZ (av 4) (ax S7 (wC (.int 16)) (dr gS (av 3))))) (gN 6)
 (b5 (fS 7 (se (ao (ax kr (av 6) (wC (.int 4))) (ao (ax eB (av 3) (ax kr (ax jI (av 6) (wC (.int 4))) (dr gS (av 3)))) (ao (ax jI (ax jI (av 6) (wC (.int 4))) (dr gS (av 3))) b9)))))
 (IL (DT 5) (ax fw (ax fw (ax fw (ax fw (dr tY (ax eB (av 7) (wC (.int 0)))) (wC (.str " "))) (ax eB (av 7) (wC (.int 1)))) (wC (.str " "))) (dr tY (ax eB (av 7) (wC (.int 2))))))))
 dU)
def iZ:WS :=
 (b5 (fS 1 (cC aV (ao (av 0) (ao (wC (.int 0)) b9))))
 (b5 (fS 2 (ax eB (kH (ao (wC (.int 4)) (ao (wC (.int 20)) (ao (ax fw (wC (.int 1)) (ax kr (ax jI (av 1) (wC (.int 4))) (wC (.int 25)))) (ao (ax kr (ax jI (av 1) (wC (.int 4))) (wC (.int 20000))) b9))))) (ax kr (ax jI (av 1) (wC (.int 97))) (wC (.int 4)))))
 (b5 (fS 3 (rg (kH (ao (wC (.str "*")) (ao (wC (.str "a")) (ao (wC (.str "ab")) (ao (wC (.str "b")) (ao (wC (.str "abc")) (ao (wC (.str "zzzzzz")) (ao (wC (.str "q")) (ao (wC (.str "xyz")) b9))))))))) cW (gj (ax eB (kH (ao (wC (.int 4)) (ao (wC (.int 7)) (ao (wC (.int 8)) (ao (wC (.int 3)) b9))))) (ax kr (ax jI (av 1) (wC (.int 389))) (wC (.int 4)))))))
 (b5 (fS 4 (ax eB (kH (ao (wC (.int 0)) (ao (wC (.int 3)) (ao (wC (.int 12)) (ao (ax fw (wC (.int 78)) (ax kr (ax jI (av 1) (wC (.int 11))) (wC (.int 7)))) b9))))) (ax kr (ax jI (av 1) (wC (.int 1553))) (wC (.int 4)))))
 (b5 (fS 5 (kH b9))
 dW)))))
theorem jG(y:Str):∀ (zs:List Str) (k:Nat),(∀ z∈zs,z.length<=k)->(Str.join y zs).length<=zs.length*(k+y.length)
 |[],k,_=>by show(Str.join y []).length<=_;rw[cz,show sg (Str.join y [])=[] from rfl];simp
 |[z],k,h=>by have:=h z (by simp);show z.length<=_;rw[Rm,EA];lia
 |z :: q :: zs,k,h=>by
  have ih:=jG y (q :: zs) k λx hx=>h x (cK _ hx);have hz:=h z dv;have e:(Str.join y (z :: q :: zs)).length=z.length+(y.length+(Str.join y (q :: zs)).length):=by rw[cz,xj,kK,kK,<- cz,<- cz,<- cz]
  rw[e,oP,LJ,EA];lia
theorem pZ:∀ (l:List Str),oF (l.map D.str)=some l
 |[]=>rfl
 |x :: l=>by simp[oF,pZ l]
theorem Az:∀ (zs:List Str) (k:Nat),(∀ z∈zs,z.length<=k)->(zs.map (·.length)).sum<=zs.length*k
 |[],k,_=>by simp
 |z :: zs,k,h=>by have:=Az zs k λx hx=>h x (cK _ hx);have:=h z dv;rw[fz,List.sum_cons,oP,LJ,EA];lia
def cP:eA:=λds Q=>∃ ns:List Int,ds=[.list (ns.map .int)]/\∀ t:Str,t.length<=1850->Q .sh (.str t)
theorem qL (ds Q) (h:cP ds Q):ds.length=["_law_script"].length:=by obtain⟨_,rfl,_⟩:=h;rfl
theorem vG{l:List Int}{i:Int}(h0:0<=i)(h1:i<l.length):∃ c,c∈l/\fv (l.map D.int) i=some (.int c):=by
 have hn:i.toNat<l.length:=by lia
 refine⟨l[i.toNat],K0 hn,?_⟩;have:=Dx (xs:=l.map D.int) (j:=i.toNat) (v:=.int l[i.toNat]) (by simp[hn]);rwa[LN h0] at this
theorem xf{l:List Str}(x:Int)(h:1<=l.length):∃ n,n∈l/\fv (l.map D.str) (x % (l.length:Int))=some (.str n):=by
 have a0:=RH x (show(l.length:Int)≠0 by lia);have a1:=RG x (show(0:Int)<l.length by lia);have hn:(x % (l.length:Int)).toNat<l.length:=by lia
 refine⟨l[(x % (l.length:Int)).toNat],K0 hn,?_⟩;have:=Dx (xs:=l.map D.str) (j:=(x % (l.length:Int)).toNat) (v:=.str l[(x % (l.length:Int)).toNat]) (by simp[hn]);rwa[LN a0] at this
theorem eq_nil:∀ l:List Str,kg (.list (l.map D.str)) (.list [])=decide (l=[])
 |[]=>rfl
 |x :: l=>rfl
theorem DP{l:List Str}(h:∀ x∈l,vk x):cv 12 (.list (l.map D.str))=true:=by simp only[cv,Rr,xt];intro s hs;have:=(zE s).mpr (h s hs);simpa[cv] using this
def Pt(p:Str):Prop:=p.length<=18/\vk p
theorem J8 {a d b:Str} (ha:a.length<=5) (oa:vk a) (hd:d.length<=6) (od:vk d) (hb:b.length<=5) (ob:vk b):Pt (a ++ " " ++ d ++ " " ++ b)/\(a ++ " ").length<=20/\(a ++ " " ++ d).length<=20/\(a ++ " " ++ d ++ " ").length<=20:=by
 have b1:(" " : Str).length=1:=by decide +kernel
 have l1:=au a " ";have l2:=au (a ++ " ") d;have l3:=au (a ++ " " ++ d) " ";have l4:=au (a ++ " " ++ d ++ " ") b;exact⟨⟨by lia,tR (tR (tR (tR oa (ju _)) od) (ju _)) ob⟩,by lia,by lia,by lia⟩
section
variable {Q:Md->D->Prop}{ns:List Int}{c many count:Int}{names parts:List Str}(h:∀ t:Str,t.length<=1850->Q .sh (.str t))(m0:0<=many)(m1:many<100000)(n1:3<=names.length/\names.length<=8)(nl:∀ n∈names,n.length<=6/\vk n)
include h m0 m1
theorem J5{o0 o1 o3 o4 o6 o7 o8 o9:Option Sl}(pl:parts.length<=90)(ph:∀ p∈parts,Pt p):dO { nx:=λ_=>Q .sh .non,rt:=Q } [o0,o1,some (.sh (.int many)),o3,o4,some (.ow true (.list (parts.map .str))),o6,o7,o8,o9,none]:=by
 have sl:=str_len (n:=many) (k:=5) m0 (by decide) (by lia);have c1:(":" : Str).length=1:=by decide +kernel
 have b1:(" " : Str).length=1:=by decide +kernel
 have s2:(", " : Str).length=2:=by decide +kernel
 have a1:=au (toString many:Str) ":";unfold dO jo;walk_at "q";refine⟨jO m0 (by lia),by lia,?_⟩;have jl:=jG ", " parts 18 λp hp=>(ph p hp).1;have su:=Az parts 18 λp hp=>(ph p hp).1;have a2:=au ((toString many:Str) ++ ":") " ";have a3:=au ((toString many:Str) ++ ":" ++ " ") (Str.join ", " parts);refine⟨DP λp hp=>(ph p hp).2,by decide,?_⟩;rw[eq_nil];by_cases e:parts=[]
 ·refine R.F (by simp[e]) ?_;walk_at "q";exact h _ (by lia)
 ·refine R.T (by simp[e]) ?_;walk_at "q";rw[s2] at jl;refine⟨by lia,parts,pZ parts,by rw[s2];lia,by lia,?_⟩;exact h _ (by lia)
include n1 nl
theorem Ik{o1 o4 o6 o7:Option Sl}(pl:parts.length<=84)(ph:∀ p∈parts,Pt p):dU { nx:=λ_=>Q .sh .non,rt:=Q } [some (.sh (.list (ns.map .int))),o1,some (.sh (.int many)),some (.ow true (.list (names.map .str))),o4,some (.ow true (.list (parts.map .str))),o6,o7,none,none,none]:=by
 obtain⟨w7,e7⟩:∃ w,w=dO:=⟨_,rfl⟩
 unfold dU;rw[<- e7];walk_at "q";have cl:(ki ns (some 6) (some 12)).length<=6:=by unfold ki;rw[nv];simp only[HT.bI];rw[if_neg (by lia),if_neg (by lia)];lia
 refine .inl ⟨oK ns,?_⟩;rw[show ki (ns.map D.int) (some 6) (some 12)=(ki ns (some 6) (some 12)).map D.int by unfold ki;rw[cE,Lv,LB]];generalize ki ns (some 6) (some 12)=ms at *
 have b1:(" " : Str).length=1:=by decide +kernel
 refine iY _ (λi ρ=>∃ (ps:List Str) (o8 o9:Option Sl),ps.length<=84+i/\(∀ p∈ps,Pt p)/\ρ=[some (.sh (.list (ns.map .int))),o1,some (.sh (.int many)),some (.ow true (.list (names.map .str))),o4,some (.ow true (.list (ps.map .str))),o6,o7,o8,o9,none]) ⟨parts,_,_,by lia,ph,rfl⟩ ?_ ?_
 ·rintro i x ρ hx ⟨ps,o8,o9,hl,hp,rfl⟩ N hN;have hi:=(pT.mp hx).1;rw[cE] at hi;rw[lI] at hx
  cases e:ms[i]? with
  |none=>rw[e] at hx;cases hx
  |some m =>
   rw[e] at hx;cases hx;obtain⟨d,hd,ed⟩:=xf (l:=names) (m / 7) (by lia);obtain⟨dl,dk⟩:=nl d hd;walk_at "q";refine⟨by lia,_,ed,?_⟩;walk_at "q";refine⟨m,rfl,λa al ak=>?_⟩;walk_at "q";have l1:=au a " ";have l2:=au (a ++ " ") d;have l3:=au (a ++ " " ++ d) " ";refine⟨by lia,by lia,by lia,_,rfl,λb bl bk=>?_⟩;obtain⟨P,p1,p2,p3⟩:=J8 al ak dl dk bl bk;walk_at "q";refine⟨by lia,by lia,?_⟩;rw[wY];walk_at"bd";rcases eI.mp ic with z|z
   ·exact hp p z
   ·rw[mw.mp z];exact P
 ·rintro ρ ⟨ps,o8,o9,hl,hp,rfl⟩;rw[cE] at hl;rw[e7];exact J5 h m0 m1 (by lia) hp
theorem Ka{o1:Option Sl}(c0:0<=count)(c1:count<=84):dW { nx:=λ_=>Q .sh .non,rt:=Q } [some (.sh (.list (ns.map .int))),o1,some (.sh (.int many)),some (.ow true (.list (names.map .str))),some (.sh (.int count)),some (.ow true (.list [])),none,none,none,none,none]:=by
 obtain⟨w6,e6⟩:∃ w,w=dU:=⟨_,rfl⟩
 unfold dW;rw[<- e6];walk_at "q";have hz:0<=(if 16*(names.length:Int)<count then 16*(names.length:Int) else count)/\(if 16*(names.length:Int)<count then 16*(names.length:Int) else count)<=84:=by split<;>lia
 generalize (if 16*(names.length:Int)<count then 16*(names.length:Int) else count)=z at *
 have b1:(" " : Str).length=1:=by decide +kernel
 refine⟨.inl ⟨by decide,by decide⟩,by lia,by lia,?_⟩;refine iY _ (λi ρ=>∃ (ps:List Str) (o6 o7:Option Sl),ps.length<=i/\(∀ p∈ps,Pt p)/\ρ=[some (.sh (.list (ns.map .int))),o1,some (.sh (.int many)),some (.ow true (.list (names.map .str))),some (.sh (.int count)),some (.ow true (.list (ps.map .str))),o6,o7,none,none,none]) ⟨[],_,_,bE _,(λp hp=>nomatch hp),rfl⟩ ?_ ?_
 ·rintro i x ρ hx ⟨ps,o6,o7,hl,hp,rfl⟩ N hN;obtain⟨hi,rfl⟩:=Hl hx;obtain⟨d,hd,ed⟩:=xf (l:=names) ((0+(i:Int)) / 4) (by lia);obtain⟨dl,dk⟩:=nl d hd;have q0:0<=(0+(i:Int)) / 4 / (names.length:Int):=Int.ediv_nonneg (by lia) (by lia);have q1:(0+(i:Int)) / 4 / (names.length:Int)<=(0+(i:Int)) / 4:=Int.ediv_le_self _ (by lia);have q2:(0+(i:Int)) / 4<=21:=by lia
  have r0:0<=(0+(i:Int)) % 4/\(0+(i:Int)) % 4<4:=by lia
  walk_at "q";refine⟨by lia,_,ed,?_⟩;walk_at "q";generalize (0+(i:Int)) / 4 / (names.length:Int)=w at *
  generalize (0+(i:Int)) % 4=u at *
  have al:=str_len (n:=u) (k:=2) (by lia) (by decide) (by lia);have bl:=str_len (n:=w) (k:=2) (by lia) (by decide) (by lia);have l1:=au (toString u:Str) " ";have l2:=au ((toString u:Str) ++ " ") d;have l3:=au ((toString u:Str) ++ " " ++ d) " ";obtain⟨P,p1,p2,p3⟩:=J8 (a:=toString u) (d:=d) (b:=toString w) (by lia) (ju _) dl dk (by lia) (ju _);refine⟨by lia,jO (by lia) (by lia),by lia,by lia,by lia,jO (by lia) (by lia),by lia,by lia,?_⟩;rw[wY];walk_at"bd";rcases eI.mp ic with z|z
  ·exact hp p z
  ·rw[mw.mp z];exact P
 ·rintro ρ ⟨ps,o6,o7,hl,hp,rfl⟩;rw[Dj] at hl;rw[e6];exact Ik h m0 m1 n1 nl (by lia) hp
end
theorem vZ:∀ ds Q,cP ds Q->iZ { nx:=λ_=>Q .sh .non,rt:=Q } (aX 11 ds):=by
 rintro ds Q ⟨ns,rfl,h⟩;obtain⟨w5,e5⟩:∃ w,w=dW:=⟨_,rfl⟩
 unfold iZ;rw[<- e5];walk_at "q";refine⟨ns,0,rfl,by decide,?_⟩;generalize ns.getD _ 0=c;walk_at "q";obtain⟨many,hm,em⟩:=vG (l:=[4,20,1+c / 4 % 25,c / 4 % 20000]) (i:=c / 97 % 4) (by lia) (by simp;lia);have m01:0<=many/\many<100000:=by simp only[dc,xo,or_false] at hm;lia
 refine⟨_,em,?_⟩;walk_at "q";obtain⟨v,hv,ev⟩:=vG (l:=[4,7,8,3]) (i:=c / 389 % 4) (by lia) (by simp;lia);refine⟨_,ev,?_⟩;walk_at "q";obtain⟨count,hc,ec⟩:=vG (l:=[0,3,12,78+c / 11 % 7]) (i:=c / 1553 % 4) (by lia) (by simp;lia);have c01:0<=count/\count<=84:=by simp only[dc,xo,or_false] at hc;lia
 refine .inl ⟨_,ec,?_⟩;walk_at "q";rw[e5];have L:[D.str "*",D.str "a",D.str "ab",D.str "b",D.str "abc",D.str "zzzzzz",D.str "q",D.str "xyz"]=(["*", "a", "ab", "b", "abc", "zzzzzz", "q", "xyz"]:List Str).map D.str:=rfl;rw[L,show ki ((["*", "a", "ab", "b", "abc", "zzzzzz", "q", "xyz"]:List Str).map D.str) none (some v)=(ki (["*", "a", "ab", "b", "abc", "zzzzzz", "q", "xyz"]:List Str) none (some v)).map D.str by unfold ki;rw[cE,Lv,LB]];refine Ka h m01.1 m01.2 ?_ (λn hn=>?_) c01.1 c01.2
 ·simp only[dc,xo,or_false] at hv;rcases hv with rfl|rfl|rfl|rfl<;>exact⟨by decide,by decide⟩
 ·have:=T9 (T_ hn);simp only[dc,xo,or_false] at this;rcases this with rfl|rfl|rfl|rfl|rfl|rfl|rfl|rfl<;>exact⟨by decide +kernel,ju _⟩
def gA:WS :=
 (b5 (fS 2 (ax kr (ax jI (av 1) (wC (.int 8))) (ax fw (dr gS (av 0)) (wC (.int 1)))))
 (b5 (fS 3 (ax kr (av 1) (wC (.int 8))))
 (b5 (fS 4 (cC bK (ao (ax jI (ax jI (av 1) (wC (.int 8))) (ax fw (dr gS (av 0)) (wC (.int 1)))) b9)))
 (b5 (eW (wB (ax zS (av 3) (wC (.int 2))))
 (eP (ax fw (ax fw (rg (av 0) cW (gj (av 2))) (av 4)) (rg (av 0) (gj (av 2)) cW)))
 bx)
 (b5 (eW (wB (ax zS (av 3) (wC (.int 4))))
 (eP (ax fw (ax fw (rg (av 0) cW (gj (av 2))) (av 4)) (rg (av 0) (gj (ax fw (av 2) (wC (.int 1)))) cW)))
 bx)
 (b5 (eW (wB (ax zS (av 3) (wC (.int 6))))
 (eP (ax fw (rg (av 0) cW (gj (av 2))) (rg (av 0) (gj (ax fw (av 2) (wC (.int 1)))) cW)))
 bx)
 (b5 (eW (wB (ax ng (av 3) (wC (.int 6))))
 (eP (ax fw (rg (av 0) cW (gj (av 2))) (rg (av 0) (gj (ax H_ (wC (.int 0)) (ax S6 (av 2) (ax kr (ax jI (ax jI (av 1) (wC (.int 8))) (ax fw (dr gS (av 0)) (wC (.int 1)))) (wC (.int 9)))))) cW)))
 bx)
 (vP 0))))))))
theorem JN{x:Str}{k:Int}(h0:0<=k):(gu x none (some k)).length<=k.toNat:=by unfold gu Str.length;simp only[i5,nv,AH,xC,HT.bI];rw[if_neg (by lia)];lia
theorem Bq{x:Str}{k:Int}(h0:0<=k):(gu x (some k) none).length<=x.length-k.toNat:=by unfold gu Str.length;simp only[i5,nv,AH,xC,HT.bI];rw[if_neg (by lia)];lia
def bQ:eA:=λds Q=>∃ (t:Str) (c:Int),ds=[.str t,.int c]/\t.length<=1950/\∀ x:Str,x.length<=t.length+9->Q .sh (.str x)
theorem nU (ds Q) (h:bQ ds Q):ds.length=["_law_text", "_law_cell"].length:=by obtain⟨_,_,rfl,_⟩:=h;rfl
theorem rO:∀ ds Q,bQ ds Q->gA { nx:=λ_=>Q .sh .non,rt:=Q } (aX 5 ds):=by
 rintro ds Q ⟨t,c,rfl,ht,h⟩;unfold gA;walk_at "q";have a0:=RH (c / 8) (show((t.length:Int)+1)≠0 by lia);have a1:=RG (c / 8) (show(0:Int)<(t.length:Int)+1 by lia);generalize c / 8 % ((t.length:Int)+1)=at' at *
 refine⟨by lia,by lia,_,rfl,λx hx=>?_⟩;have b0:0<=c / 8 / ((t.length:Int)+1) % 9/\c / 8 / ((t.length:Int)+1) % 9<9:=⟨RH _ (by decide),RG _ (by decide)⟩
 have pl:=JN (x:=t) a0;have s0:=Bq (x:=t) a0;have s1:=Bq (x:=t) (k:=at'+1) (by lia);have j1:=au (gu t none (some at')) x;have j2:=au (gu t none (some at')++x) (gu t (some at') none);have j3:=au (gu t none (some at')++x) (gu t (some (at'+1)) none);have j4:=au (gu t none (some at')) (gu t (some (at'+1)) none);walk_at "q";refine R.D (λe=>?_) λe=>?_
 ·walk_at "q";exact⟨by lia,by lia,h _ (by lia)⟩
 walk_at "q";refine R.D (λe=>?_) λe=>?_
 ·walk_at "q";exact⟨by lia,by lia,h _ (by lia)⟩
 walk_at "q";refine R.D (λe=>?_) λe=>?_
 ·walk_at "q";exact⟨by lia,h _ (by lia)⟩
 walk_at "q";refine R.D (λe=>?_) λe=>?_
 ·walk_at "q";generalize c / 8 / ((t.length:Int)+1) % 9=dd at *
  refine⟨by lia,?_⟩;have hm:0<=(if at'-dd>0 then at'-dd else 0)/\at'-8<=(if at'-dd>0 then at'-dd else 0):=by split<;>lia
  generalize (if at'-dd>0 then at'-dd else 0)=mm at *
  have s2:=Bq (x:=t) hm.1;have j5:=au (gu t none (some at')) (gu t (some mm) none);exact⟨by lia,h _ (by lia)⟩
 ·walk_at "q";exact h _ (by lia)
def dD:WS :=
 (b5 (fS 3 (kH b9))
 (b5 (An (lB (oh (rg (av 2) (gj (wC (.int 1))) cW) (wC (.str ", ")))) (gN 4)
 (b5 (fS 5 (oh (av 4) (wC (.str " "))))
 (b5 (eW (qV (wB (ax nh (dr gS (av 5)) (wC (.int 3)))) (qV (md (wB (cC aN (ao (ax eB (av 5) (wC (.int 0))) b9)))) (md (wB (cC aN (ao (ax eB (av 5) (wC (.int 2))) b9))))))
 (eP (wC .non))
 bx)
 (b5 (eW (md (wB (cC bC (ao (ax eB (av 5) (wC (.int 1))) b9))))
 (eP (wC .non))
 bx)
 (IL (DT 3) (se (ao (dr wK (ax eB (av 5) (wC (.int 0)))) (ao (ax eB (av 5) (wC (.int 1))) (ao (dr wK (ax eB (av 5) (wC (.int 2)))) b9)))))))))
 (Cu [.inl (dr wK (av 1)),.inr 3])))
def iR:WS :=
 (b5 (eW (wB (ax nh (ax eB (av 2) (wC (.int 0))) (wC (.str " "))))
 (eP (wC .non))
 bx)
 dD)
def dF:WS :=
 (b5 (fS 2 (rg (av 0) (gj (ax fw (dr gS (av 1)) (wC (.int 1)))) cW))
 (b5 (eW (wB (ax ng (av 2) (wC (.str ""))))
 (eP (se (ao (dr wK (av 1)) (ao (kH b9) b9))))
 bx)
 iR))
def gO:WS :=
 (b5 (fS 1 (ax eB (oh (av 0) (wC (.str ":"))) (wC (.int 0))))
 (b5 (eW (qV (wB (ax (z0 true) (wC (.str ":")) (av 0))) (md (wB (cC aN (ao (av 1) b9)))))
 (eP (wC .non))
 bx)
 dF))
def bL:eA:=λds Q=>∃ t:Str,ds=[.str t]/\t.length<=1990/\(kZ t=none->Q .sh .non)/\∀ many l,kZ t=some (many,l)->BM l->Q (.ow true) (.tup [.int many,.list (l.map ft)])
theorem pU (ds Q) (h:bL ds Q):ds.length=["_law_text"].length:=by obtain⟨_,rfl,_⟩:=h;rfl
theorem jT(p:Str)(ps:List Str):allOf (p :: ps)=(gJ p).bind λs=>(allOf ps).map (s :: ·):=rfl
theorem jm:∀ (a b:List Str),allOf (a++b)=(allOf a).bind λl=>(allOf b).map (l ++ ·)
 |[],b=>by show allOf b=(allOf b).map λm=>m;simp
 |p :: a,b=>by
  rw[List.cons_append,jT,jT,jm a b]
  cases gJ p with
  |none=>rfl
  |some s =>
   cases allOf a with
   |none=>rfl
   |some l =>
    cases allOf b with
    |none=>rfl
    |some m=>rfl
theorem o_ {Q:Md->D->Prop} {h r:Str} {o0:Option Sl} (hn:dM h=true) (hr:r.length<=1990) (h1:allOf (Txt.split (gu r (some 1) none) ", ")=none->Q .sh .non) (h2:∀ l,allOf (Txt.split (gu r (some 1) none) ", ")=some l->Q (.ow true) (.tup [.int (valN h),.list (l.map ft)])) :
  dD { nx:=λ_=>Q .sh .non,rt:=Q } [o0,some (.sh (.str h)),some (.sh (.str r)),none,none,none]:=by
 unfold dD;have cl:=lZ r (some 1) none;have sc:=oA (x:=gu r (some 1) none);have sp:=λp hp=>jN (x:=gu r (some 1) none) (y := ", ") (p:=p) hp;walk_at "q";walk_at"y";generalize Txt.split (gu r (some 1) none) ", " = ps at *
 refine iY _ (λi ρ=>∃ (l:List cp) (o4 o5:Option Sl),allOf (ps.take i)=some l/\ρ=[o0,some (.sh (.str h)),some (.sh (.str r)),some (.ow true (.list (l.map ft))),o4,o5]) ⟨[],_,_,rfl,rfl⟩ ?_ ?_
 ·rintro i x ρ hx ⟨l,o4,o5,el,rfl⟩ N hN;rw[lI] at hx
  cases e:ps[i]? with
  |none=>rw[e] at hx;cases hx
  |some p =>
   rw[e] at hx;cases hx;have hi:=(pT.mp e).1;have pl:=sp p (rp e);have ll:=(zr el).1;rw[nv] at ll;have et:ps.take (i+1)=ps.take i++[p]:=by rw[D6,e];rfl
   have no:gJ p=none->Q .sh .non:=λz=>h1 (by
    rw[<- FP (i+1) ps,jm,et,jm,el,jT,z];rfl)
   have ye:∀ s,gJ p=some s->allOf (ps.take (i+1))=some (l++[s]):=λs z=>by rw[et,jm,el];show((gJ p).bind _).map _=_;rw[z];rfl
   unfold gJ at no ye;walk_at "q";walk_at"y";generalize Txt.split p " " = ws at *
   refine R.B (λe3=>?_) λe3=>?_
   ·have e3:ws.length≠3:=by simp at e3;lia
    walk_at "q";exact no (xP e3)
   match ws,(show ws.length=3 by simp at e3;lia) with
   |[a,d,b],_ =>
    simp only[Fg] at no ye;walk_at "q";refine⟨a,rfl,?_⟩
    cases ea:dM a with
    |false =>walk_at "q";exact no (by rw[ea];rfl)
    |true =>
     walk_at "q";refine⟨b,rfl,?_⟩
     cases eb:dM b with
     |false =>walk_at "q";exact no (by rw[ea,eb,Bool.and_false];rfl)
     |true =>
      walk_at "q";refine⟨d,rfl,?_⟩
      cases ed:gG d with
      |false =>walk_at "q";exact no (by rw[ea,eb,ed];rfl)
      |true =>have la:=nQ ea;have lb:=nQ eb;walk_at "q";refine⟨by lia,_,(h_ ea).1,by lia,_,(h_ eb).1,by lia,?_⟩;rw[show l.map ft++[D.tup [.int (valN a),.str d,.int (valN b)]]=(l++[((valN a,d,valN b):cp)]).map ft by simp[ft]];exact hN _ ⟨_,_,_,ye _ (by rw[ea,eb,ed];rfl),rfl⟩
 ·rintro ρ ⟨l,o4,o5,el,rfl⟩;rw[cE,Lc] at el;have lh:=nQ hn;walk_at "q";exact⟨by lia,_,(h_ hn).1,h2 l el⟩
theorem oZ{Q:Md->D->Prop}{t h r:Str}(hn:dM h=true)(et:t=h ++ ⟨#[58]⟩++r)(hr:r.length<=1990)(h1:restOf r=none->Q .sh .non)(h2:∀ l,restOf r=some l->Q (.ow true) (.tup [.int (valN h),.list (l.map ft)])) :
  dF { nx:=λ_=>Q .sh .non,rt:=Q } [some (.sh (.str t)),some (.sh (.str h)),none,none,none,none]:=by
 obtain⟨w5,e5⟩:∃ w,w=dD:=⟨_,rfl⟩
 unfold dF iR;rw[<- e5];walk_at "q";rw[Aq et];have lh:=nQ hn;unfold restOf at h1 h2;refine R.D (λe=>?_) λe=>?_
 ·walk_at "q";exact⟨by lia,_,(h_ hn).1,h2 [] (by rw[if_pos e])⟩
 rw[if_neg e] at h1 h2;walk_at "q";obtain⟨c,q,er⟩:=wz (x:=r) (by
  rcases Nat.eq_zero_or_pos r.length with z|z
  ·exact absurd (kI (by
    rw[cz] at z;show sg r=_;rw[KL.mp z];decide +kernel)) e
  ·exact z)
 refine⟨c,by show fv (sg r) 0=_;rw[er];exact Tg _ _,?_⟩;rw[Ey,zO];rw[er] at h1 h2;by_cases hc:c=32
 ·subst hc;have e32:(32 :: q:List Nat)[0]? = some 32:=rfl;simp only[if_pos e32] at h1 h2;refine R.F (by simp) ?_;walk_at "q";rw[e5];exact o_ hn hr h1 h2
 ·refine R.T (by simp[hc]) ?_;walk_at "q";exact h1 (if_neg λz=>hc (by simpa using z))
theorem uZ:∀ ds Q,bL ds Q->gO { nx:=λ_=>Q .sh .non,rt:=Q } (aX 6 ds):=by
 rintro ds Q ⟨t,rfl,ht,h1,h2⟩;obtain⟨w2,e2⟩:∃ w,w=dF:=⟨_,rfl⟩
 unfold gO;rw[<- e2];walk_at "q";walk_at"y";have hp:kZ t=(pH t).bind λp=>if dM p.1 then (restOf p.2).map λl=>(valN p.1,l) else none:=rfl
 cases e:pH t with
 |none =>obtain⟨n58,es⟩:=xU e;rw[e] at hp;rw[es];refine⟨.str t,rfl,?_⟩;walk_at "q";rw[x_,rA,decide_eq_false n58];walk_at "q";exact h1 hp
 |some p =>
  obtain⟨h,r⟩:=p;obtain⟨et,hh,_,e0⟩:=rE e;have hl:=vp e;rw[e] at hp;have hp:kZ t=if dM h then (restOf r).map λl=>(valN h,l) else none:=hp;refine⟨.str h,by
   have:=Dx (xs:=(Txt.split t ":").map D.str) (j:=0) (v:=.str h) (by rw[lI,e0];rfl);exact this,?_⟩
  walk_at "q";rw[x_,rA,decide_eq_true (show 58∈t.cps.toList by
   show 58∈sg t;rw[et,iG,iG];simp[sg])]
  walk_at "q";refine⟨h,rfl,?_⟩
  cases en:dM h with
  |false =>walk_at "q";exact h1 (by rw[hp,en];rfl)
  |true =>rw[if_pos en] at hp;walk_at "q";rw[e2];exact oZ en et (by lia) (λz=>h1 (by rw[hp,z];rfl)) λl z=>h2 _ l (by rw[hp,z];rfl) (wO (by lia) z)
def oH:WS :=
 (b5 (eW (qV (md (wB (dr (z5 "tuple") (av 1)))) (wB (ax nh (dr gS (av 1)) (wC (.int 3)))))
 (eP (wC (.bl false)))
 bx)
 (eP (rP (cC cM (ao (av 0) (ao (ax eB (av 1) (wC (.int 0))) b9))) (rP (cC cj (ao (ax eB (av 1) (wC (.int 1))) b9)) (cC cM (ao (av 0) (ao (ax eB (av 1) (wC (.int 2))) b9)))))))
def dq:eA:=λds Q=>∃ (many:Int) (s:cp),ds=[.int many,ft s]/\vE s.2.1/\Q .sh (.bl (decide (yT many s)))
theorem vH (ds Q) (h:dq ds Q):ds.length=["many", "thing"].length:=by obtain⟨_,_,rfl,_⟩:=h;rfl
theorem zu:∀ ds Q,dq ds Q->oH { nx:=λ_=>Q .sh .non,rt:=Q } (aX 2 ds):=by
 rintro ds Q ⟨many,⟨p,d,r⟩,rfl,hd,h⟩;unfold oH ft;walk_at "q";refine R.F rfl ?_;walk_at "q";refine R.F rfl ?_;walk_at "q";refine⟨_,_,rfl,?_⟩;by_cases h1:0<=p/\p<many;rotate_left
 ·rw[decide_eq_false (λz:yT many (p,d,r)=>h1 z.1)] at h;rw[decide_eq_false h1];walk_at "q";exact h
 rw[decide_eq_true h1];walk_at "q";walk_at"bb";rw[qi.mpr hd];walk_at "q";refine⟨_,_,rfl,?_⟩;walk_at "q";by_cases h2:0<=r/\r<many
 ·rw[decide_eq_true (show yT many (p,d,r) from⟨h1,h2⟩)] at h;rw[decide_eq_true h2];exact h
 ·rw[decide_eq_false (λz:yT many (p,d,r)=>h2 z.2)] at h;rw[decide_eq_false h2];exact h
def jf:WS :=
 (b5 (eW (md (wB (cC cj (ao (av 0) b9))))
 (eY "NoText" (wC (.str "a word that is no deed stands where a deed ought to stand")))
 bx)
 (vP 0))
def bV:eA:=λds Q=>∃ x:Str,ds=[.str x]/\(gG x=true->Q .sh (.str x))/\(gG x=false->Q (.ow false) (.str "NoText"))
theorem rH (ds Q) (h:bV ds Q):ds.length=["word"].length:=by obtain⟨_,rfl,_⟩:=h;rfl
theorem vW:∀ ds Q,bV ds Q->jf { nx:=λ_=>Q .sh .non,rt:=Q } (aX 1 ds):=by
 rintro ds Q ⟨x,rfl,h1,h2⟩;unfold jf;walk_at "q";walk_at"bb"
 cases e:gG x with
 |true =>walk_at "q";exact h1 e
 |false =>walk_at "q";exact h2 e
def fu:WS :=
 (b5 (eW (qV (wB (ax DM (av 1) (wC (.int 20)))) (qV (wB (ax DM (dr gS (av 3)) (wC (.int 80)))) (wB (ax DM (dr gS (av 4)) (wC (.int 6))))))
 (eP (se (ao (wC (.str "refused")) (ao (wC (.str "big")) b9))))
 bx)
 (sN 1 (eP (se (ao (wC (.str "told")) (ao (se (ao (av 1) (ao (dr BJ (dr Ba (av 3))) b9))) b9))))))
def fC:WS :=
 (b5 (fS 3 zA)
 (b5 (fS 4 Bm)
 (b5 (sN 2 (An (lB (av 2)) (gN 5)
 (b5 (zN (DT 3) (av 5) (wC (.bl true)))
 (eW (wB (ax nh (ax eB (av 5) (wC (.int 1))) (wC (.str "*"))))
 (zN (DT 4) (ax eB (av 5) (wC (.int 1))) (wC (.bl true)))
 bx))))
 fu)))
def fG:WS :=
 (b5 (Hm 1 2 (TC (cC bL (ao (av 0) b9))))
 (b5 (eW (qV (wB (ax zS (av 1) (wC (.int 1)))) (wB (ax nh (jB (iT (av 2)) (gN 0) (qV (wB (ax S8 (ax eB (av 0) (wC (.int 0))) (av 1))) (wB (ax S8 (ax eB (av 0) (wC (.int 2))) (av 1)))) (av 0) 1 [1]) (kH b9))))
 (eP (se (ao (wC (.str "refused")) (ao (wC (.str "machine")) b9))))
 bx)
 fC))
def kh:WS :=
 (b5 (eW (qV (md (wB (dr (z5 "str") (av 0)))) (wB (ax Vq (TC (cC bL (ao (av 0) b9))) (wC .non))))
 (eP (se (ao (wC (.str "refused")) (ao (wC (.str "text")) b9))))
 bx)
 fG)
def eA' (Q:Md->D->Prop) (d:D):Prop:=ev' d (Q .sh (.tup [.str "refused",.str "text"])) (Q .sh (.tup [.str "refused",.str "machine"])) (Q .sh (.tup [.str "refused",.str "big"])) λmany out=>Q (.ow true) (.tup [.str "told",mD many out])
def cJ:eA:=λds Q=>∃ d:D,ds=[d]/\eA' Q d
theorem uG (ds Q) (h:cJ ds Q):ds.length=["_law_text"].length:=by obtain⟨_,rfl,_⟩:=h;rfl
def Met (l:List cp) (kn:Kn) (kd:List (Key × D)):Prop:=xl (λs=>s∈l) kn/\(∀ s∈l,iE s∈kn.map (·.1))/\(kd.map (·.1)).Nodup/\∀ k,k∈kd.map (·.1)↔∃ s,s∈l/\s.2.1 ≠ "*"/\k=Sum.inr s.2.1
theorem Met.step{l:List cp}{kn:Kn}{kd:List (Key × D)}{s:cp}{d:D}(h:Met l kn kd):xl (λt=>t∈l++[s]) (kG kn (iE s) d)/\∀ t∈l++[s],iE t∈(kG kn (iE s) d).map (·.1):=by
 obtain⟨h1,h2,_⟩:=h;refine⟨xl.put ⟨λp hp=>?_,h1.2⟩ (dQ _ (mw.mpr rfl)),λt ht=>?_⟩
 ·obtain⟨u,e,hu⟩:=h1.1 p hp;exact⟨u,e,gE _ hu⟩
 ·rw[oJ];rcases eI.mp ht with ht|ht
  ·have:=h2 t ht;split
   ·exact this
   ·exact gE _ this
  ·rw[show t=s by simpa using ht];split
   ·assumption
   ·exact dQ _ (mw.mpr rfl)
theorem Met.star {l:List cp} {kn:Kn} {kd:List (Key × D)} {s:cp} {d:D} (h:Met l kn kd) (hs:s.2.1 = "*"):Met (l++[s]) (kG kn (iE s) d) kd:=by
 obtain⟨a,b⟩:=h.step (s:=s) (d:=d);refine⟨a,b,h.2.2.1,λk=>(h.2.2.2 k).trans ⟨λ⟨u,hu,e⟩=>⟨u,gE _ hu,e⟩,λ⟨u,hu,e1,e2⟩=>?_⟩⟩;rcases eI.mp hu with hu|hu
 ·exact⟨u,hu,e1,e2⟩
 ·rw[show u=s by simpa using hu] at e1;exact absurd hs e1
theorem Met.open {l:List cp} {kn:Kn} {kd:List (Key × D)} {s:cp} {d d2:D} (h:Met l kn kd) (hs:s.2.1 ≠ "*"):Met (l++[s]) (kG kn (iE s) d) (kG kd (Sum.inr s.2.1) d2):=by
 obtain⟨a,b⟩:=h.step (s:=s) (d:=d);obtain⟨_,_,h1,h2⟩:=h;refine⟨a,b,?_⟩;rw[oJ];split
 ·rename_i z;refine⟨h1,λk=>(h2 k).trans ⟨λ⟨u,hu,e⟩=>⟨u,gE _ hu,e⟩,λ⟨u,hu,e1,e2⟩=>?_⟩⟩;rcases eI.mp hu with hu|hu
  ·exact⟨u,hu,e1,e2⟩
  ·obtain rfl:u=s:=by simpa using hu
   obtain⟨v,hv,v1,v2⟩:=(h2 _).mp z;exact⟨v,hv,v1,e2.trans v2⟩
 ·rename_i z;refine⟨hJ.mpr ⟨h1,by simp,λa ha b hb e=>?_⟩,λk=>⟨λhk=>?_,λ⟨u,hu,e1,e2⟩=>?_⟩⟩
  ·have:b=Sum.inr s.2.1:=by simpa using hb
   subst this;subst e;exact z ha
  ·rcases eI.mp hk with hk|hk
   ·obtain⟨u,hu,e⟩:=(h2 k).mp hk;exact⟨u,gE _ hu,e⟩
   ·exact⟨s,by simp,hs,by simpa using hk⟩
  ·rcases eI.mp hu with hu|hu
   ·exact gE _ ((h2 k).mpr ⟨u,hu,e1,e2⟩)
   ·obtain rfl:u=s:=by simpa using hu
    exact dQ _ (by simp[e2])
theorem Met.opn{l:List cp}{kn:Kn}{kd:List (Key × D)}(h:Met l kn kd):pW l kd.length:=by
 obtain⟨_,_,h1,h2⟩:=h;have all:∀ k∈kd.map (·.1),∃ x:Str,k=Sum.inr x:=λk hk=>by obtain⟨u,_,_,e⟩:=(h2 k).mp hk;exact⟨_,e⟩
 obtain⟨m,hm⟩:∃ m:List Str,kd.map (·.1)=m.map Sum.inr:=by
  generalize kd.map (·.1)=ks at *
  clear h1 h2
  induction ks with
  |nil=>exact⟨[],rfl⟩
  |cons k ks ih =>obtain⟨x,rfl⟩:=all k dv;obtain⟨m,rfl⟩:=ih λk hk=>all k (cK _ hk);exact⟨x :: m,rfl⟩
 refine⟨m,dI (f:=(Sum.inr:Str->Key)) (hm ▸ h1),λn=>?_,?_⟩
 ·have:=h2 (Sum.inr n);rw[hm] at this;have e:(Sum.inr n:Key)∈m.map Sum.inr↔n∈m:=by simp
  rw[<- e,this];unfold yB;constructor
  ·rintro⟨s,hs,h1,h2⟩;cases h2;exact⟨de.mpr ⟨s,hs,rfl⟩,h1⟩
  ·rintro⟨h1,h2⟩;obtain⟨s,hs,rfl⟩:=de.mp h1;exact⟨s,hs,h2,rfl⟩
 ·have:=congrArg List.length hm;simpa using this.symm
theorem Met.dis{l:List cp}{kn:Kn}{kd:List (Key × D)}(h:Met l kn kd):zf l kn.length:=by
 obtain⟨h1,h2,_⟩:=h;obtain⟨m,hm,hp⟩:=tD (P:=λs=>s∈l) (ks:=kn.map (·.1)) λk hk=>by obtain⟨p,hp,rfl⟩:=de.mp hk;exact h1.1 p hp
 have nd:=h1.2;rw[hm] at nd;refine⟨m,dI nd,λs=>⟨hp s,λhs=>?_⟩,?_⟩
 ·have:=h2 s hs;rw[hm] at this;obtain⟨t,ht,e⟩:=de.mp this;rw[<- lX e];exact ht
 ·have:=congrArg List.length hm;simpa using this.symm
theorem vm {Q:Md->D->Prop} {many:Int} {l:List cp} {kn:Kn} {kd:List (Key × D)} {o0 o2 o5:Option Sl} (lo:BM l) (g:uI many l) (M:Met l kn kd) (h:P7 many l (Q .sh (.tup [.str "refused",.str "machine"])) (Q .sh (.tup [.str "refused",.str "big"])) λmany out=>Q (.ow true) (.tup [.str "told",mD many out])) :
  fu { nx:=λ_=>Q .sh .non,rt:=Q } [o0,some (.sh (.int many)),o2,some (.ow true (.dT kn)),some (.ow true (.dK kd)),o5]:=by
 obtain⟨h1,h2⟩:=h.2 g _ _ M.dis M.opn;unfold fu;walk_at "q";refine R.D (λe=>?_) λe=>?_
 ·walk_at "q";exact h1 λz=>by have:=z.1;lia
 walk_at "q";refine R.D (λe2=>?_) λe2=>?_
 ·walk_at "q";exact h1 λz=>by have:=z.2.1;lia
 walk_at "q";refine R.D (λe3=>?_) λe3=>?_
 ·walk_at "q";exact h1 λz=>by have:=z.2.2;lia
 walk_at "q";refine xl.sorted (Q:=λ_ x=>Q (.ow true) (.tup [.str "told",.tup [.int many,x]])) M.1 λsteps pm hs pw ll=>?_;unfold mD at h2;have M2:FG l steps:=by
  refine⟨dI (pm.nodup_iff.mpr M.1.2),λs=>⟨hs s,λz=>?_⟩,pw.imp λ{a b} z=>?_⟩
  ·obtain⟨t,ht,e⟩:=de.mp (pm.mem_iff.mpr (M.2.1 s z));rw[<- lX e];exact ht
  ·cases z2:i3 b a with
   |false=>rfl
   |true=>exact absurd (wX z z2) (by rw[wG];exact hU)
 exact h2 ⟨by lia,by lia,by lia⟩ steps M2
theorem uT {Q:Md->D->Prop} {many:Int} {l:List cp} {o0:Option Sl} (lo:BM l) (g:uI many l) (h:P7 many l (Q .sh (.tup [.str "refused",.str "machine"])) (Q .sh (.tup [.str "refused",.str "big"])) λmany out=>Q (.ow true) (.tup [.str "told",mD many out])) :
  fC { nx:=λ_=>Q .sh .non,rt:=Q } [o0,some (.sh (.int many)),some (.sh (.list (l.map ft))),none,none,none]:=by
 obtain⟨w6,e6⟩:∃ w,w=fu:=⟨_,rfl⟩
 unfold fC;rw[<- e6];walk_at "q";refine iY _ (λi ρ=>∃ (kn:Kn) (kd:List (Key × D)) (o5:Option Sl),Met (l.take i) kn kd/\kn.length<=i/\kd.length<=i/\ρ=[o0,some (.sh (.int many)),some (.sh (.list (l.map ft))),some (.ow true (.dT kn)),some (.ow true (.dK kd)),o5]) ⟨[],[],_,⟨xl.nil,(λs hs=>nomatch hs),kA,λk=>⟨(λz=>nomatch z),λ⟨s,hs,_⟩=>nomatch hs⟩⟩,dy _,dy _,rfl⟩ ?_ ?_
 ·rintro i x ρ hx ⟨kn,kd,o5,M,l1,l2,rfl⟩ N hN;have hi:=(pT.mp hx).1;rw[cE] at hi;have lz:=lo.1;rw[lI] at hx
  cases e:l[i]? with
  |none=>rw[e] at hx;cases hx
  |some s =>
   rw[e] at hx;cases hx;obtain⟨p,d,r⟩:=s;have et:l.take (i+1)=l.take i++[(p,d,r)]:=by rw[D6,e];rfl
   have kl:=l_ kn [Sum.inl p,Sum.inr d,Sum.inl r] (D.bl true);have kl2:=l_ kd (Sum.inr d:Key) (D.bl true);unfold ft;walk_at "q";refine⟨by lia,?_⟩;refine R.B (λe2=>?_) λe2=>?_
   ·have e2:d ≠ "*" := by simpa using e2
    walk_at "q";refine⟨by lia,hN _ ⟨_,_,_,by rw[et];exact M.open (s:=(p,d,r)) (d:=.bl true) (d2:=.bl true) e2,by lia,by lia,rfl⟩⟩
   ·have e2:d = "*" := by simpa using e2
    walk_at "q";exact hN _ ⟨_,_,_,by rw[et];exact M.star (s:=(p,d,r)) (d:=.bl true) e2,by lia,by lia,rfl⟩
 ·rintro ρ ⟨kn,kd,o5,M,l1,l2,rfl⟩;rw[cE,Lc] at M;rw[e6];exact vm lo g M h
theorem uW {Q:Md->D->Prop} {t:Str} {many:Int} {l:List cp} (ht:t.length<=1990) (e:kZ t=some (many,l)) (lo:BM l) (h:P7 many l (Q .sh (.tup [.str "refused",.str "machine"])) (Q .sh (.tup [.str "refused",.str "big"])) λmany out=>Q (.ow true) (.tup [.str "told",mD many out])) :
  fG { nx:=λ_=>Q .sh .non,rt:=Q } [some (.sh (.str t)),none,none,none,none,none]:=by
 obtain⟨w3,e3⟩:∃ w,w=fC:=⟨_,rfl⟩
 unfold fG;rw[<- e3];walk_at "q";refine⟨t,rfl,ht,λz=>(by rw[e] at z;cases z),λoY' l' z _=>?_⟩;rw[e] at z;cases z;walk_at "q";refine R.D (λh1=>?_) λh1=>?_
 ·walk_at "q";exact h.1 λz=>by have:=z.1;lia
 walk_at "q"
 refine dR (λd=>match d with
  |.tup [.int p,_,.int r]=>decide (many<=p) || decide (many<=r)
  |_=>false) (λd=>d) (λρ=>∃ o,ρ=[o,some (.sh (.int many))]) _ _ _ ⟨_,rfl⟩ ?_ ?_
 ·rintro x hx ρ ⟨o,rfl⟩ N1 N2 n1 n2;obtain⟨⟨p,d,r⟩,hs,rfl⟩:=de.mp hx;unfold ft at n1 n2 ⊢;walk_at "q";refine R.D (λa1=>?_) λa1=>?_
  ·walk_at "q";exact⟨.inl rfl,n2 _ ⟨_,rfl⟩ (by simp[a1])⟩
  walk_at "q";by_cases a2:many<=r
  ·rw[decide_eq_true a2,if_pos rfl];exact⟨.inl rfl,n2 _ ⟨_,rfl⟩ (by simp[a2])⟩
  ·rw[decide_eq_false a2,if_neg hU];exact n1 _ ⟨_,rfl⟩ (by simp[a1,a2])
 ·rw[List.map_id'];by_cases g:uI many l
  ·rw[List.filter_eq_nil_iff.mpr λx hx=>?_];rotate_left
   ·obtain⟨s,hs,rfl⟩:=de.mp hx;have:=g.2 s hs;unfold yT at this;show ¬ (decide (many<=s.1) || decide (many<=s.2.2))=true;simp;lia
   refine⟨by decide,by decide,R.F (by decide) ?_⟩;walk_at "q";rw[e3];exact uT lo g h
  ·obtain⟨s,hs,hn⟩:∃ s,s∈l/\¬ yT many s:=by refine Classical.byContradiction λz=>g ⟨by lia,λs hs=>Classical.byContradiction λy=>z ⟨s,hs,y⟩⟩
   have hm:ft s∈(l.map ft).filter (λd=>match d with
     |.tup [.int p,_,.int r]=>decide (many<=p) || decide (many<=r)
     |_=>false):=D7.mpr ⟨de.mpr ⟨s,hs,rfl⟩,by
    have:=lo.2 s hs;show(decide (many<=s.1) || decide (many<=s.2.2))=true;simp only[Bool.or_eq_true,decide_eq_true_eq];unfold yT at hn;lia⟩
   have hf:∀ x∈(l.map ft).filter (λd=>match d with
     |.tup [.int p,_,.int r]=>decide (many<=p) || decide (many<=r)
     |_=>false),∃ s∈l,x=ft s:=λx hx=>by
    obtain⟨s,hs,rfl⟩:=de.mp (D7.mp hx).1;exact⟨s,hs,rfl⟩
   generalize (l.map ft).filter _=fs at *
   have ok:cv 12 (.list fs)=true:=by simp only[cv,xt];intro x hx;obtain⟨s,hs,rfl⟩:=hf x hx;have:=(lo.2 s hs).2.1.ok;simp[cv,ft,this]
   refine⟨ok,by decide,R.T ?_ ?_⟩
   ·cases fs with
    |nil=>cases hm
    |cons x fs=>rfl
   walk_at "q";exact h.1 g
theorem yq:∀ ds Q,cJ ds Q->kh { nx:=λ_=>Q .sh .non,rt:=Q } (aX 6 ds):=by
 rintro ds Q ⟨d,rfl,tx,h1,h2⟩;obtain⟨w1,e1⟩:∃ w,w=fG:=⟨_,rfl⟩
 unfold kh;rw[<- e1];rcases tx with⟨t,rfl,ht⟩|rfl|⟨i,rfl⟩|⟨x,rfl⟩;rotate_left
 ·walk_at "q";refine R.T rfl ?_;walk_at "q";exact h1 rfl
 ·walk_at "q";refine R.T rfl ?_;walk_at "q";exact h1 rfl
 ·walk_at "q";refine R.T rfl ?_;walk_at "q";exact h1 rfl
 walk_at "q";refine R.F rfl ?_;walk_at "q";refine⟨t,rfl,ht,λe=>?_,λmany l e lo=>?_⟩
 ·walk_at "q";exact h1 e
 ·walk_at "q";rw[e1];exact uW ht e lo (h2 many l e lo)
def gq:WS :=
 (b5 (eW (qV (md (wB (cC bO (ao (av 0) b9)))) (wB (ax zS (av 0) (wC (.int 1)))))
 (eY "NoMachine" (wC (.str "many is no whole number from 1 on")))
 bx)
 (b5 (eW (md (wB (dr (z5 "list") (av 1))))
 (eY "NoMachine" (wC (.str "the steps are no list")))
 bx)
 (sN 1 (An (lB (av 1)) (gN 2)
 (eW (md (wB (cC dq (ao (av 0) (ao (av 2) b9)))))
 (eY "NoMachine" (wC (.str "a step is no tuple of a state, a deed and a state")))
 bx)))))
def bu:eA:=λds Q=>∃ (many:Int) (steps:List cp),ds=[.int many,.list (steps.map ft)]/\(∀ s∈steps,vE s.2.1)/\(uI many steps->Q .sh .non)/\(¬ uI many steps->Q (.ow false) (.str "NoMachine"))
theorem nu (ds Q) (h:bu ds Q):ds.length=["many", "steps"].length:=by obtain⟨_,_,rfl,_⟩:=h;rfl
theorem rM:∀ ds Q,bu ds Q->gq { nx:=λ_=>Q .sh .non,rt:=Q } (aX 3 ds):=by
 rintro ds Q ⟨many,steps,rfl,hd,g1,g2⟩;unfold gq;walk_at "q";walk_at"bb";walk_at "q";refine R.D (λh1=>?_) λh1=>?_
 ·walk_at "q";exact g2 λz=>by have:=z.1;lia
 walk_at "q";refine R.F rfl ?_;walk_at "q";refine iY _ (λi ρ=>∃ o,(∀ s∈steps.take i,yT many s)/\ρ=[some (.sh (.int many)),some (.sh (.list (steps.map ft))),o]) ⟨_,by simp,rfl⟩ ?_ ?_
 ·rintro i x ρ hx ⟨o,ho,rfl⟩ N hN;rw[lI] at hx
  cases e:steps[i]? with
  |none=>rw[e] at hx;cases hx
  |some s =>
   rw[e] at hx;cases hx;have hs:=rp e;walk_at "q";refine⟨_,_,rfl,hd s hs,?_⟩;by_cases h2:yT many s
   ·rw[decide_eq_true h2];walk_at "q";refine hN _ ⟨_,λt ht=>?_,rfl⟩;rw[D6,e] at ht;rcases eI.mp ht with ht|ht
    ·exact ho t ht
    ·rw[show t=s by simpa using ht];exact h2
   ·rw[decide_eq_false h2];walk_at "q";exact g2 λz=>h2 (z.2 s hs)
 ·rintro ρ ⟨o,ho,rfl⟩;rw[cE,Lc] at ho;walk_at "q";exact g1 ⟨by lia,ho⟩
def i_:WS :=
 (b5 (fS 1 (oh (av 0) (wC (.str " "))))
 (b5 (eW (wB (ax nh (dr gS (av 1)) (wC (.int 3))))
 (eY "NoText" (wC (.str "a step is not three words")))
 bx)
 (Dz (Hx (um (nP aK (ao (ax eB (av 1) (wC (.int 0))) b9)) (um (nP bV (ao (ax eB (av 1) (wC (.int 1))) b9)) (um (nP aK (ao (ax eB (av 1) (wC (.int 2))) b9)) Gd)))))))
def bH:eA:=λds Q=>∃ x:Str,ds=[.str x]/\x.length<=2000/\(∀ s,gJ x=some s->Q .sh (ft s))/\(gJ x=none->Q (.ow false) (.str "NoText"))
theorem sY (ds Q) (h:bH ds Q):ds.length=["text"].length:=by obtain⟨_,rfl,_⟩:=h;rfl
theorem vX:∀ ds Q,bH ds Q->i_ { nx:=λ_=>Q .sh .non,rt:=Q } (aX 2 ds):=by
 rintro ds Q ⟨x,rfl,hx,h1,h2⟩;unfold i_;unfold gJ at h1 h2;walk_at "q";walk_at"y";generalize Txt.split x " " = ws at *
 refine R.B (λe=>?_) λe=>?_
 ·have e:ws.length≠3:=by simp at e;lia
  walk_at "q";exact h2 (xP e)
 match ws,(show ws.length=3 by simp at e;lia) with
 |[a,d,b],_ =>
  walk_at "q";simp only[Fg] at h1 h2;refine⟨a,rfl,λe1=>?_,λe1=>?_⟩;rotate_left
  ·walk_at "q";exact h2 (by rw[e1];rfl)
  walk_at "q";refine⟨d,rfl,λe2=>?_,λe2=>?_⟩;rotate_left
  ·walk_at "q";exact h2 (by rw[e1,e2];rfl)
  walk_at "q";refine⟨b,rfl,λe3=>?_,λe3=>?_⟩;rotate_left
  ·walk_at "q";exact h2 (by rw[e1,e2,e3];rfl)
  walk_at "q";exact h1 _ (by rw[e1,e2,e3];rfl)
def Bp:WS :=
 (b5 (xH bu (ao (av 0) (ao (av 1) b9)))
 (b5 (sN 0 (fS 2 (se (ao (av 0) (ao (dr ji (av 1)) b9)))))
 (b5 (xH bj (ao (av 2) b9))
 (vP 2))))
theorem Bw{α:Type}[DecidableEq α]:∀ l:List α,∃ m:List α,m.Nodup/\∀ x,x∈m↔x∈l
 |[]=>⟨[],kA,λ_=>Iff.rfl⟩
 |y :: l=>by
  obtain⟨m,nd,h⟩:=Bw l;by_cases hy:y∈m
  ·refine⟨m,nd,λx=>(h x).trans ⟨λz=>cK _ z,λz=>?_⟩⟩;rcases dc.mp z with rfl|z
   ·exact(h x).mp hy
   ·exact z
  ·exact⟨y :: m,ny.mpr ⟨hy,nd⟩,λx=>by rw[dc,dc,h]⟩
theorem J1(steps:List cp):∃ k,pW steps k:=by obtain⟨m,nd,h⟩:=Bw ((yB steps).filter λn=>decide (n≠("*" : Str)));exact⟨_,m,nd,λn=>(h n).trans (by rw[D7];simp),rfl⟩
theorem JF(steps:List cp):∃ c,zf steps c:=by obtain⟨m,nd,h⟩:=Bw steps;exact⟨_,m,nd,h,rfl⟩
def je:eA:=λds Q=>∃ (many:Int) (steps:List cp),ds=[.int many,.list (steps.map ft)]/\BM steps/\P7 many steps (Q (.ow false) (.str "NoMachine")) (Q (.ow false) (.str "TooBig")) λmany out=>Q (.ow true) (mD many out)
theorem Dd (ds Q) (h:je ds Q):ds.length=["many", "steps"].length:=by obtain⟨_,_,rfl,_⟩:=h;rfl
theorem Jd:∀ ds Q,je ds Q->Bp { nx:=λ_=>Q .sh .non,rt:=Q } (aX 3 ds):=by
 rintro ds Q ⟨many,steps,rfl,⟨hz,hs⟩,g1,g2⟩;unfold Bp;walk_at "q";refine⟨many,steps,rfl,λs h=>(hs s h).2.1,λgm=>?_,λgm=>?_⟩;rotate_left
 ·walk_at "q";exact g1 gm
 obtain⟨c,hc⟩:=JF steps;obtain⟨k,hk⟩:=J1 steps;obtain⟨g3,g4⟩:=g2 gm c k hc hk;walk_at "q";refine⟨steps.map iE,[false,true],by rw[mz];rfl,by simpa using hz,?_,λms nd mm pw=>?_⟩
 ·intro k hk;obtain⟨s,_,rfl⟩:=de.mp hk;rfl
 ·obtain⟨out,rfl,ho⟩:=tD (P:=λs=>s∈steps) (ks:=ms) λk hk=>by obtain⟨s,hs,rfl⟩:=de.mp ((mm k).mp hk);exact⟨s,rfl,hs⟩
  have M:FG steps out:=⟨dI nd,λs=>⟨λhm=>ho s hm,λhm=>by
   have:=(mm (iE s)).mpr (de.mpr ⟨s,hm,rfl⟩);obtain⟨s',fF,e⟩:=de.mp this;rw[<- lX e];exact fF⟩,wa.mp pw⟩
  have e:(out.map iE).map sF=out.map ft:=by rw[mz];rfl
  rw[e];have rS:=hc.uniq ⟨out,M.1,M.2.1,rfl⟩;subst rS;have Tq:out.length<=1000:=fP (TS.cR M.1 λs hs=>(M.2.1 s).mp hs) hz;refine⟨many,out,k,rfl,Tq,λs fF=>(hs s (ho s fF)).2.1,hk.same M.2.1,λsm=>?_,λsm=>?_⟩
  ·walk_at "q";exact g4 sm out M
  ·walk_at "q";exact g3 sm
def gQ:WS :=
 (b5 (eW (wB (ax ng (av 0) (wC (.str ""))))
 (eP (kH b9))
 bx)
 (b5 (eW (md (wB (vq (av 0) (wC (.str " ")))))
 (eY "NoText" (wC (.str "no blank stands behind the colon")))
 bx)
 (Dz (xX (iT (oh (rg (av 0) (gj (wC (.int 1))) cW) (wC (.str ", ")))) (gN 0) E9 (nP bH (ao (av 0) b9)) 1 []))))
def bN:eA:=λds Q=>∃ r:Str,ds=[.str r]/\r.length<=1990/\(∀ l,restOf r=some l->Q (.ow true) (.list (l.map ft)))/\(restOf r=none->Q (.ow false) (.str "NoText"))
theorem pG (ds Q) (h:bN ds Q):ds.length=["text"].length:=by obtain⟨_,rfl,_⟩:=h;rfl
theorem qJ {Y:Str->Prop}:∀ (ps:List Str) (k:List D->Prop) (o:Option Sl),(∀ p∈ps,p.length<=2000)->(∀ l,allOf ps=some l->k (l.map ft))->(allOf ps=none->Y "NoText") ->
  eN (gN 0) E9 (nP bH (ao (av 0) b9) · Y ·) (ps.map .str) [o] k
 |[],k,o,_,h1,_=>h1 [] rfl
 |p :: ps,k,o,hl,h1,h2=>by
  rw[fz];unfold eN;walk_at "q";refine⟨p,rfl,hl p dv,λs e=>?_,λe=>?_⟩
  ·have ih:=qJ ps (λout=>k (ft s :: out)) (some (.sh (.str p))) (λq hq=>hl q (cK _ hq)) (λl e2=>h1 (s :: l) (by unfold allOf;rw[e,e2];rfl)) λe2=>h2 (by unfold allOf;rw[e,e2];rfl);unfold ft at ih ⊢;walk_at "q";exact⟨.inl rfl,ih⟩
  ·walk_at "q";exact h2 (by unfold allOf;rw[e];rfl)
theorem zM{x:Str}(c:Nat):Txt.startswith x ⟨#[c]⟩=decide ((sg x)[0]? = some c):=by
 by_cases h:(sg x)[0]? = some c
 ·have:=(PySem.StrLaws.subAt_one x c 0).mpr h
  unfold Txt.startswith
  rw[this.2,decide_eq_true this.1,decide_eq_true h];rfl
 ·rw[decide_eq_false h]
  cases e:Txt.startswith x ⟨#[c]⟩ with
  |false=>rfl
  |true =>unfold Txt.startswith at e;simp only[i7,decide_eq_true_eq] at e;exact absurd ((PySem.StrLaws.subAt_one x c 0).mp ⟨e.1,e.2⟩) h
theorem uq:∀ ds Q,bN ds Q->gQ { nx:=λ_=>Q .sh .non,rt:=Q } (aX 1 ds):=by
 rintro ds Q ⟨r,rfl,hr,h1,h2⟩;unfold gQ;unfold restOf at h1 h2;walk_at "q";refine R.D (λe=>?_) λe=>?_
 ·walk_at "q";exact h1 [] (by rw[if_pos e])
 rw[if_neg e] at h1 h2;walk_at "q";rw[Ey,zM];by_cases e2:(sg r)[0]? = some 32;rotate_left
 ·rw[decide_eq_false e2];walk_at "q";exact h2 (by rw[if_neg e2])
 rw[decide_eq_true e2];rw[if_pos e2] at h1 h2;have cl:=lZ r (some 1) none;walk_at "q";walk_at"y";refine qJ _ _ _ (λp hp=>?_) h1 h2;have:=jN hp;lia
def Cm:WS :=
 (b5 (eW (md (wB (dr (z5 "str") (av 0))))
 (eY "NoText" (wC (.str "this is no text")))
 bx)
 (b5 (fS 1 (Ai (av 0) (wC (.str ":"))))
 (b5 (eW (wB (ax ng (ax eB (av 1) (wC (.int 1))) (wC (.str ""))))
 (eY "NoText" (wC (.str "there is no colon")))
 bx)
 (b5 (zY 2 aK (ao (ax eB (av 1) (wC (.int 0))) b9))
 (b5 (zY 3 bN (ao (ax eB (av 1) (wC (.int 2))) b9))
 (Hv je (ao (av 2) (ao (av 3) b9))))))))
def jU:eA:=λds Q=>∃ d:D,ds=[d]/\ev' d (Q (.ow false) (.str "NoText")) (Q (.ow false) (.str "NoMachine")) (Q (.ow false) (.str "TooBig")) λmany out=>Q (.ow true) (mD many out)
theorem Cv (ds Q) (h:jU ds Q):ds.length=["text"].length:=by obtain⟨_,rfl,_⟩:=h;rfl
theorem Hf {t:Str} (h:58∉sg t):Txt.partition t ":" = (t,Str.empty,Str.empty):=by
 rw[x_];unfold Txt.partition;rcases PySem.StrLaws.occ_head t ⟨#[58]⟩ 1 (bE 1) with⟨e,_⟩|⟨i,r,h0,hi,hn⟩
 ·rw[e]
 ·exact absurd (rp ((PySem.StrLaws.subAt_one t 58 i).mp hi)) h
theorem Ig:∀ ds Q,jU ds Q->Cm { nx:=λ_=>Q .sh .non,rt:=Q } (aX 4 ds):=by
 rintro ds Q ⟨d,rfl,tx,h1,h2⟩;unfold Cm;rcases tx with⟨t,rfl,ht⟩|rfl|⟨i,rfl⟩|⟨x,rfl⟩;rotate_left
 ·walk_at "q";refine R.T rfl ?_;walk_at "q";exact h1 rfl
 ·walk_at "q";refine R.T rfl ?_;walk_at "q";exact h1 rfl
 ·walk_at "q";refine R.T rfl ?_;walk_at "q";exact h1 rfl
 walk_at "q";refine R.F rfl ?_;walk_at "q";walk_at"y";have hp:TN (.str t)=(pH t).bind λp=>if dM p.1 then (restOf p.2).map λl=>(valN p.1,l) else none:=rfl
 cases e:pH t with
 |none =>rw[Hf (xU e).1];rw[e] at hp;refine R.T (show decide (Str.empty=Str.ofString "")=true by decide +kernel) ?_;walk_at "q";exact h1 hp
 |some p =>
  obtain⟨a,r⟩:=p;obtain⟨et,ha,_⟩:=rE e;have hl:=vp e;rw[e] at hp;have hp:TN (.str t)=if dM a then (restOf r).map λl=>(valN a,l) else none:=hp;have ep:Txt.partition t ":" = (a,⟨#[58]⟩,r):=by rw[x_,et];exact HH ha
  rw[ep];refine R.F (show decide ((⟨#[58]⟩:Str)=Str.ofString "")=false by decide +kernel) ?_;walk_at "q";refine⟨a,rfl,λe1=>?_,λe1=>?_⟩;rotate_left
  ·walk_at "q";exact h1 (by rw[hp,e1];rfl)
  rw[if_pos e1] at hp;walk_at "q";refine⟨r,rfl,by lia,λl e2=>?_,λe2=>?_⟩;rotate_left
  ·walk_at "q";exact h1 (by rw[hp,e2];rfl)
  have lo:=wO (r:=r) (by lia) e2;obtain⟨o1,o2⟩:=h2 (valN a) l (by rw[hp,e2];rfl) lo;walk_at "q";refine⟨_,l,rfl,lo,λg=>?_,λg c k hc hk=>⟨λsm=>?_,λsm out M=>?_⟩⟩
  ·walk_at "q";exact o1 g
  ·walk_at "q";exact(o2 g c k hc hk).1 sm
  ·unfold mD;walk_at "q";exact(o2 g c k hc hk).2 sm out M
def gR:WS :=
 (b5 (V2 (zY 1 jU (ao (av 0) b9)) (λa=>[none,none,some (.xc a),none,none]) (λa n=>(b5 (fS 3 (kH (ao (xi 2 a (decide (n = "NoText"))) (ao (xi 2 a (decide (n = "NoMachine"))) (ao (xi 2 a (decide (n = "TooBig"))) b9)))))
 (b5 (fS 4 (kH (ao (xi 2 a (decide (n = "NoState"))) (ao (xi 2 a (decide (n = "NoDeed"))) (ao (xi 2 a (decide (n = "NoFrame"))) (ao (xi 2 a (decide (n = "NoScroll"))) b9))))))
 (b5 (fS 4 (ax fw (av 4) (kH (ao (xi 2 a (decide (n = "NoName"))) (ao (xi 2 a (decide (n = "NoRow"))) b9)))))
 (b5 (eW (qV (md (wB (xi 2 a true))) (qV (wB (ax (z0 false) (wC (.bl true)) (av 4))) (wB (ax nh (dr gS (jB (iT (av 3)) (gN 0) (S5 (av 0)) (av 0) 1 [])) (wC (.int 1))))))
 (eP (se (ao (wC (.str "refused")) (ao (wC (.str "other")) b9))))
 bx)
 (eP (se (ao (wC (.str "refused")) (ao (ax eB (kH (ao (wC (.str "text")) (ao (wC (.str "machine")) (ao (wC (.str "big")) b9)))) (xn (av 3) (wC (.bl true)))) b9))))))))))
 (Cu [.inl (wC (.str "told")),.inr 1]))
def bM:eA:=λds Q=>∃ d:D,ds=[d]/\eA' Q d
theorem pX (ds Q) (h:bM ds Q):ds.length=["_law_text"].length:=by obtain⟨_,rfl,_⟩:=h;rfl
theorem qN{bs:List Bool}{k:List D->Prop}{o:Option Sl}(h:k ((bs.filter id).map .bl)):eN (gN 0) (S5 (av 0)) (av 0) (bs.map .bl) [o] k:=by
 refine dR (λd=>match d with
  |.bl b=>b
  |_=>false) (λd=>d) (λρ=>∃ o,ρ=[o]) _ _ _ ⟨_,rfl⟩ ?_ ?_
 ·rintro y hy ρ ⟨o,rfl⟩ N1 N2 n1 n2;obtain⟨b,hb,rfl⟩:=de.mp hy;walk_at "q"
  cases b with
  |true=>exact⟨.inl rfl,n2 _ ⟨_,rfl⟩ rfl⟩
  |false=>exact n1 _ ⟨_,rfl⟩ rfl
 ·rw[List.filter_map,List.map_id'];exact h
theorem vg:∀ ds Q,bM ds Q->gR { nx:=λ_=>Q .sh .non,rt:=Q } (aX 5 ds):=by
 rintro ds Q ⟨d,rfl,tx,h1,h2⟩;unfold gR;walk_at "q";refine⟨d,rfl,tx,λe=>?_,λmany l e lo=>⟨λg=>?_,λg c k hc hk=>⟨λsm=>?_,λsm out M=>?_⟩⟩⟩
 ·walk_at "q";intro a;walk_at"ag";walk_at "q";refine qN (bs:=[true,false,false]) ?_;refine R.F (by decide +kernel) ?_;walk_at "q";refine⟨rfl,rfl,0,⟨_,rfl,rfl⟩,(λi z hi=>absurd hi (by lia)),.str "text",rfl,?_⟩;walk_at "q";exact h1 e
 ·walk_at "q";intro a;walk_at"ag";walk_at "q";refine qN (bs:=[false,true,false]) ?_;refine R.F (by decide +kernel) ?_;walk_at "q";refine⟨rfl,rfl,1,⟨_,rfl,by decide +kernel⟩,(λi z hi hz=>?_),.str "machine",rfl,?_⟩
  ·obtain rfl:i=0:=by lia
   cases hz;decide +kernel
  walk_at "q";exact(h2 many l e lo).1 g
 ·walk_at "q";intro a;walk_at"ag";walk_at "q";refine qN (bs:=[false,false,true]) ?_;refine R.F (by decide +kernel) ?_;walk_at "q";refine⟨rfl,rfl,2,⟨_,rfl,by decide +kernel⟩,(λi z hi hz=>?_),.str "big",rfl,?_⟩
  ·rcases (show i=0\/i=1 by lia) with rfl|rfl
   ·cases hz;decide +kernel
   ·cases hz;decide +kernel
  walk_at "q";exact((h2 many l e lo).2 g c k hc hk).1 sm
 ·unfold mD;walk_at "q";exact((h2 many l e lo).2 g c k hc hk).2 sm out M
def qK:WS :=
 (b5 (sN 1 (sN 4 (sN 2 (An (BL (se (ao (av 2) (ao (av 4) (ao (av 1) b9))))) (gN 5)
 (eW (wB (ax nh (cC bM (ao (av 5) b9)) (cC cJ (ao (av 5) b9))))
 (eP (wC (.bl false)))
 bx)))))
 (eP (wC (.bl true))))
def Gy:WS :=
 (b5 (fS 1 (cC cP (ao (av 0) b9)))
 (b5 (sN 1 (fS 2 (av 1)))
 (b5 (sN 0 (An (lB (rg (av 0) (gj (wC (.int 2))) (gj (wC (.int 5))))) (gN 3)
 (fS 2 (cC bQ (ao (av 2) (ao (av 3) b9))))))
 (b5 (fS 4 (cC dh (ao (cC aV (ao (av 0) (ao (wC (.int 1)) b9))) b9)))
 qK))))
abbrev JJ:eA:=ds'
theorem Gv (ds Q) (h:JJ ds Q):ds.length=["_law_script"].length:=by obtain⟨_,rfl,_⟩:=h;rfl
theorem FG.one{steps out Wg:List cp}(M:FG steps out)(M2:FG steps Wg):out=Wg :=
 List.Perm.eq_of_pairwise (λa b _ _ h1 h2=>lX (rQ (a:=iE a) (b:=iE b) rfl h2 h1)) M.2.2 M2.2.2 ((List.perm_ext_iff_of_nodup M.1 M2.1).mpr λs=>(M.2.1 s).trans (M2.2.1 s).symm)
theorem Fz {many:Int} {l out:List cp} (lo:BM l) (g:uI many l) (M:FG l out):cv 12 (.tup [.str "told",mD many out])=true:=by
 have:=lZ' (many:=many) (l:=out) 8 λs hs=>by have hs:=(M.2.1 s).mp hs;have a:=lo.2 s hs;have b:=g.2 s hs;exact⟨a.1,b.1.2,a.2.1,a.2.2,b.2.2⟩
 show(cv 11 (.str "told") && (cv 11 (mD many out) && true))=true;rw[this];decide +kernel
theorem Fv (many:Int) (l:List cp):(D.tup [.str "told",mD many l]).nb=true:=by show(D.nb (.str "told") && (D.nb (mD many l) && true))=true;rw[ma'];rfl
theorem Hn{Q:Md->D->Prop}{o0 o3:Option Sl}{t1 t2:Str}{d:D}{sl:Sl}(h1:t1.length<=1990)(h2:t2.length<=1990)(tx:FH d)(hs:sl=.sh d\/sl=.ow true d)(h:∀ m,Q m (.bl true)) :
  qK { nx:=λ_=>Q .sh .non,rt:=Q } [o0,some (.sh (.str t1)),some (.sh (.str t2)),o3,some sl,none]:=by
 have go:An (BL (se (ao (av 2) (ao (av 4) (ao (av 1) b9))))) (gN 5) (eW (wB (ax nh (cC bM (ao (av 5) b9)) (cC cJ (ao (av 5) b9)))) (eP (wC (D.bl false))) bx) { nx:=λ_=>Q .sh (.bl true),rt:=Q } [o0,some (.sh (.str t1)),some (.sh (.str t2)),o3,some (.sh d),none]:=by
  walk_at "q";refine iY _ (λi ρ=>∃ o5:Option Sl,ρ=[o0,some (.sh (.str t1)),some (.sh (.str t2)),o3,some (.sh d),o5]) ⟨_,rfl⟩ ?_ ?_
  ·rintro i x ρ hx ⟨o5,rfl⟩ N hN;have tx:FH x:=by
    have:=rp hx;simp only[dc,xo,or_false] at this;rcases this with rfl|rfl|rfl
    ·exact .inl ⟨_,rfl,h2⟩
    ·exact tx
    ·exact .inl ⟨_,rfl,h1⟩
   have fin:=hN _ ⟨some (.sh x),rfl⟩;walk_at "q";refine⟨x,rfl,tx,λe=>?_,λmany l e lo=>⟨λg=>?_,λg c k hc hk=>⟨λsm=>?_,λsm out M=>?_⟩⟩⟩
   ·walk_at "q";refine⟨x,rfl,tx,λ_=>?_,λmany l e2=>by rw[e] at e2;cases e2⟩;walk_at "q";walk_at"E";walk_at "q";exact fin
   ·walk_at "q";walk_at"D";rw[e] at e2;cases e2;refine⟨λ_=>?_,λg2=>absurd g2 g⟩;walk_at "q";walk_at"E";walk_at "q";exact fin
   ·walk_at "q";walk_at"D";rw[e] at e2;cases e2;refine⟨λg2=>absurd g g2,λ_ c2 k2 AW w8=>⟨λ_=>?_,λTR=>?_⟩⟩
    ·walk_at "q";walk_at"E";walk_at "q";exact fin
    ·rw[AW.uniq hc,w8.uniq hk] at TR;exact absurd TR sm
   ·have ok:=Fz lo g M;have nb:=Fv many out;unfold mD at ok nb ⊢;walk_at "q";walk_at"D";rw[e] at e2;cases e2;refine⟨λg2=>absurd g g2,λ_ c2 k2 AW w8=>⟨λTR=>absurd (by rw[AW.uniq hc,w8.uniq hk];exact sm) TR,λ_ Wg M2=>?_⟩⟩;rw[M2.one M];unfold mD;walk_at "q";refine⟨ok,ok,R.F (by rw[eq_self nb];rfl) ?_⟩;walk_at "q";exact fin
  ·rintro ρ ⟨o5,rfl⟩;exact h _
 unfold qK;rcases hs with rfl|rfl
 ·exact go
 ·exact go
theorem Ls:∀ ds Q,JJ ds Q->Gy { nx:=λ_=>Q .sh .non,rt:=Q } (aX 6 ds):=by
 rintro ds Q ⟨ns,rfl,hl,h⟩;obtain⟨w4,e4⟩:∃ w,w=qK:=⟨_,rfl⟩
 unfold Gy;rw[<- e4];walk_at "q";refine⟨ns,rfl,λt1 l1=>?_⟩;walk_at "q";have cl:(ki ns (some 2) (some 5)).length<=3:=by unfold ki;rw[nv];simp only[HT.bI];rw[if_neg (by lia),if_neg (by lia)];lia
 refine .inl ⟨oK ns,?_⟩;rw[show ki (ns.map D.int) (some 2) (some 5)=(ki ns (some 2) (some 5)).map D.int by unfold ki;rw[cE,Lv,LB]];generalize ki ns (some 2) (some 5)=ms at *
 refine iY _ (λi ρ=>∃ (t2:Str) (o3:Option Sl),t2.length<=1850+9*i/\ρ=[some (.sh (.list (ns.map .int))),some (.sh (.str t1)),some (.sh (.str t2)),o3,none,none]) ⟨t1,_,by lia,rfl⟩ ?_ ?_
 ·rintro i x ρ hx ⟨t2,o3,l2,rfl⟩ N hN;have hi:=(pT.mp hx).1;rw[cE] at hi;rw[lI] at hx
  cases e:ms[i]? with
  |none=>rw[e] at hx;cases hx
  |some m =>rw[e] at hx;cases hx;walk_at "q";refine⟨t2,m,rfl,by lia,λt3 l3=>?_⟩;walk_at "q";exact hN _ ⟨t3,_,by lia,rfl⟩
 ·rintro ρ ⟨t2,o3,l2,rfl⟩;rw[cE] at l2;walk_at "q";refine⟨ns,1,rfl,by decide,?_⟩;generalize ns.getD _ 0=c;walk_at "q";refine⟨c,rfl,λd tx=>?_⟩;have fin:∀ sl,sl=Sl.sh d\/sl=Sl.ow true d->w4 { nx:=λ_=>Q .sh .non,rt:=Q } [some (.sh (.list (ns.map .int))),some (.sh (.str t1)),some (.sh (.str t2)),o3,some sl,none]:=λsl hs=>by rw[e4];exact Hn (by lia) (by lia) tx hs h
  rcases tx with⟨t,rfl,ht⟩|rfl|⟨i,rfl⟩|⟨x,rfl⟩
  ·walk_at "q";exact fin _ (.inl rfl)
  ·walk_at "q";exact fin _ (.inl rfl)
  ·walk_at "q";exact fin _ (.inl rfl)
  ·walk_at "q";exact fin _ (.inr rfl)
def top(i:Nat):Stmt:=PySem.Challenge.pw_kinlook_k10_texts_refused.main.body.getD i (.Pass ⟨0,0,0,0⟩)
abbrev eO:Stmt:=top 4
abbrev qI:List Str:=["thing"]
abbrev fQ:Stmt:=top 5
abbrev yD:List Str:=["thing"]
abbrev dZ:Stmt:=top 21
abbrev wN:List Str:=["thing"]
abbrev d_:Stmt:=top 22
abbrev wM:List Str:=["many", "thing"]
abbrev fX:Stmt:=top 23
abbrev yK:List Str:=["many", "thing"]
abbrev aR:Stmt:=top 24
abbrev iH:List Str:=["many", "steps", "step"]
abbrev aL:Stmt:=top 25
abbrev eG:List Str:=["m"]
abbrev iJ:Stmt:=top 26
abbrev Ad:List Str:=["many", "steps", "m"]
abbrev du:Stmt:=top 27
abbrev mO:List Str:=["m"]
abbrev cO:Stmt:=top 31
abbrev k_:List Str:=["word"]
abbrev aU:Stmt:=top 32
abbrev iK:List Str:=["word"]
abbrev bA:Stmt:=top 33
abbrev lG:List Str:=["word"]
abbrev bB:Stmt:=top 34
abbrev kO:List Str:=["text", "words"]
abbrev aW:Stmt:=top 35
abbrev gF:List Str:=["text"]
abbrev iD:Stmt:=top 36
abbrev zK:List Str:=["text", "halves", "many", "steps"]
abbrev bR:Stmt:=top 38
abbrev m7:List Str:=["_law_script", "_law_k"]
abbrev di:Stmt:=top 39
abbrev u_:List Str:=["_law_cell", "_law_some"]
abbrev eE:Stmt:=top 40
abbrev vI:List Str:=["_law_cell", "_law_some", "_law_sign_here"]
abbrev b8:Stmt:=top 41
abbrev oX:List Str:=["_law_cell", "_law_kind"]
abbrev dB:Stmt:=top 42
abbrev tZ:List Str:=["_law_script", "_law_cell", "_law_many", "_law_names", "_law_count", "_law_parts_here", "_law_k", "_law_step", "_law_more", "_law_deed", "_law_text"]
abbrev bZ:Stmt:=top 43
abbrev pC:List Str:=["_law_text", "_law_cell", "_law_at", "_law_kind", "_law_sign_here"]
abbrev aY:Stmt:=top 44
abbrev gf:List Str:=["_law_word"]
abbrev bw:Stmt:=top 45
abbrev ig:List Str:=["_law_word"]
abbrev cQ:Stmt:=top 46
abbrev rT:List Str:=["_law_text", "_law_head", "_law_rest", "_law_steps", "_law_part", "_law_words"]
abbrev dw:Stmt:=top 47
abbrev oU:List Str:=["_law_text", "_law_many", "_law_steps", "_law_known", "_law_deeds", "_law_step"]
abbrev bY:Stmt:=top 48
abbrev jE:List Str:=["_law_text", "_law_found", "e", "_law_some", "_law_others"]
abbrev rB:Stmt:=top 49
abbrev IK:List Str:=["_law_script", "_law_first", "_law_text", "_law_cell", "_law_odd_here", "_law_one"]
abbrev rn:List Str:=["NoMachine", "NoText", "TooBig"]
structure Txt(K:PySem.W.Frag)(mg:Str->Option Value):Prop where
 P8:mg "ValueError" = none
 JY:mg "all" = none
 P9:mg "bool" = none
 AB:mg "int" = none
 kS:mg "isinstance" = none
 iF:mg "len" = none
 Kb:mg "list" = none
 Qb:mg "max" = none
 Qr:mg "min" = none
 QN:mg "range" = none
 Ki:mg "set" = none
 FI:mg "sorted" = none
 tf:mg "str" = none
 QY:mg "tuple" = none
 Q7:N0 mg "HIDDEN" "*"
 Q8:N0 mg "LETTERS" "abcdefghijklmnopqrstuvwxyz"
 Q9:EX mg "MOST_LETTERS" 6
 Q_:EX mg "MOST_STATES" 20
 Ra:EX mg "MOST_STEPS" 80
 Rb:EX mg "MOST_OPEN_DEEDS" 6
 Rc:N0 mg "FIGURES" "0123456789"
 Rf:EX mg "MOST_FIGURES" 4
 Wh:Tx K mg "NoMachine"
 Kj:Tx K mg "NoText"
 Wi:Tx K mg "TooBig"
 mf':JT K mg rn "KinError"
 mg':∀ n C,n∈rn->mg n=some (.ref C)->∃ c,mg "TooBig" = some (.ref c)/\PySem.W.kitOne K (.ref C) (.ref c)=some (decide (n = "TooBig"))
 mh':∀ n C,n∈rn->mg n=some (.ref C)->∃ c,mg "NoMachine" = some (.ref c)/\PySem.W.kitOne K (.ref C) (.ref c)=some (decide (n = "NoMachine"))
 mi':∀ n C,n∈rn->mg n=some (.ref C)->∃ c,mg "NoText" = some (.ref c)/\PySem.W.kitOne K (.ref C) (.ref c)=some (decide (n = "NoText"))
 mj':∀ n C,n∈rn->mg n=some (.ref C)->∃ c,mg "NoScroll" = some (.ref c)/\PySem.W.kitOne K (.ref C) (.ref c)=some (decide (n = "NoScroll"))
 ml':∀ n C,n∈rn->mg n=some (.ref C)->∃ c,mg "NoFrame" = some (.ref c)/\PySem.W.kitOne K (.ref C) (.ref c)=some (decide (n = "NoFrame"))
 mm':∀ n C,n∈rn->mg n=some (.ref C)->∃ c,mg "NoDeed" = some (.ref c)/\PySem.W.kitOne K (.ref C) (.ref c)=some (decide (n = "NoDeed"))
 mn':∀ n C,n∈rn->mg n=some (.ref C)->∃ c,mg "NoState" = some (.ref c)/\PySem.W.kitOne K (.ref C) (.ref c)=some (decide (n = "NoState"))
 mo':∀ n C,n∈rn->mg n=some (.ref C)->∃ c,mg "NoRow" = some (.ref c)/\PySem.W.kitOne K (.ref C) (.ref c)=some (decide (n = "NoRow"))
 mp':∀ n C,n∈rn->mg n=some (.ref C)->∃ c,mg "NoName" = some (.ref c)/\PySem.W.kitOne K (.ref C) (.ref c)=some (decide (n = "NoName"))
 mq':∀ n C,n∈rn->mg n=some (.ref C)->PySem.W.kitOne K (.ref C) (.type "ValueError")=some true
section
variable {P:Program}{w:World}{K:PySem.W.Frag}{mg:Str->Option Value}{base:Heap}
theorem qj:gL qI ["thing"] (bG eO):=⟨rfl,rfl,rfl,by decide +kernel,rfl,by decide +kernel,by decide +kernel⟩
theorem yM {f:Addr} {fd:FuncData} (F:eK K "is_open" "is_open" eO f fd) (T:Txt K mg)  : fi P w K mg base iO 1 f fd ["thing"] (aA K b_) :=
 n9.ok (t:=oN) F qj wH (λbT A outer s H E hr =>
  have nd:=qj.nd;have hu:=hr.units
  (aj (bD (yn (jH (cT (dH (uH T.kS (qv 0) (sO T.tf iQ)))) (gW (cT (jj fY fY jR jR az (aO aF bJ rfl T.iF bF (qv 0)) (OS T.Q9)))))) (aq (aM xa))
   aG)
   (aq (aM (aO cv' Ex rfl T.JY E_ (mK (tn:=["sign"]) (cn:=[]) (ix:=[]) rfl (yo (xg (qv 0))) (cG.of (sc:=bG eO) (N:=qI) rfl rfl (by decide +kernel)) (λ_ _ _ _=>(cD (i:=0) (show(["sign"]:List Str).Nodup by decide +kernel) rfl (Or.inl rfl) (.inr rfl))) (λ_ _ _ _=>qW) (λ_ _ _ _=>(ue (kc (K:=K) hu) Dv (qv 0) (Vn T.Q8) (by rfl))))))))) z_
theorem oE:gL wN ["thing"] (bG dZ):=⟨rfl,rfl,rfl,by decide +kernel,rfl,by decide +kernel,by decide +kernel⟩
theorem wF {f:Addr} {fd:FuncData} (F:eK K "is_whole" "is_whole" dZ f fd) (T:Txt K mg)  : fi P w K mg base iO 1 f fd ["thing"] (aA K bO) :=
 n9.ok (t:=jL) F oE uE (λbT A outer s H E hr =>
  have nd:=oE.nd;have hu:=hr.units
  (aq (aM (yE (uH T.kS (qv 0) (sO T.AB qw)) (ur (Ln (uH T.kS (qv 0) (sO T.P9 Hi)))))))) yG
theorem mV:gL mO ["m"] (bG du):=⟨rfl,rfl,rfl,by decide +kernel,rfl,by decide +kernel,by decide +kernel⟩
theorem vU {f:Addr} {fd:FuncData} (F:eK K "deeds_of" "deeds_of" du f fd) (T:Txt K mg)  : fi P w K mg base iO 1 f fd ["m"] (aA K cN) :=
 n9.ok (t:=jQ) F mV uf (λbT A outer s H E hr =>
  have nd:=mV.nd;have hu:=hr.units
  (aq (aM (zj rfl T.FI rfl T.Ki (mK (tn:=["step"]) (cn:=[]) (ix:=[]) rfl (q_ (fo hu (qv 0) az)) (cG.of (sc:=bG du) (N:=mO) rfl rfl (by decide +kernel)) (λ_ _ _ _=>(cD (i:=0) (show(["step"]:List Str).Nodup by decide +kernel) rfl (Or.inl rfl) (.inr rfl))) (λ_ _ _ _=>qW) (λ_ _ _ _=>(fo hu (qv 0) az))))))) yV
theorem lF:gL k_ ["word"] (bG cO):=⟨rfl,rfl,rfl,by decide +kernel,rfl,by decide +kernel,by decide +kernel⟩
theorem uc {f:Addr} {fd:FuncData} (F:eK K "is_number" "is_number" cO f fd) (T:Txt K mg)  : fi P w K mg base iO 1 f fd ["word"] (aA K bU) :=
 n9.ok (t:=jc) F lF rR (λbT A outer s H E hr =>
  have nd:=lF.nd;have hu:=hr.units
  (aj (bD (cT (jj fY fY jR jR az (aO aF bJ rfl T.iF bF (qv 0)) (OS T.Rf))) (aq (aM xa))
   aG)
   (aj (bD (cT (dH (aO cv' Ex rfl T.JY E_ (mK (tn:=["sign"]) (cn:=[]) (ix:=[]) rfl (yo (xg (qv 0))) (cG.of (sc:=bG cO) (N:=k_) rfl rfl (by decide +kernel)) (λ_ _ _ _=>(cD (i:=0) (show(["sign"]:List Str).Nodup by decide +kernel) rfl (Or.inl rfl) (.inr rfl))) (λ_ _ _ _=>qW) (λ_ _ _ _=>(ue (kc (K:=K) hu) Dv (qv 0) (Vn T.Rc) (by rfl)))))))
   (aq (aM xa))
   aG)
   (aq (aM (Vo (ue (ub (K:=K) hu) jV (qv 0) aB (fm _)) (ur (ue (wt (K:=K) hu) lV (fo hu (qv 0) az) aB (fm _))))))))) vY
theorem g8:gL m7 ["_law_script", "_law_k"] (bG bR):=⟨rfl,rfl,rfl,by decide +kernel,rfl,by decide +kernel,by decide +kernel⟩
theorem n_ {f:Addr} {fd:FuncData} (F:eK K "_law_cell_at" "_law_cell_at" bR f fd) (T:Txt K mg)  : fi P w K mg base iO 1 f fd ["_law_script", "_law_k"] (aA K aV) :=
 n9.ok (t:=fJ) F g8 lN (λbT A outer s H E hr =>
  have nd:=g8.nd;have hu:=hr.units
  (aj (bD (aQ m5 wD (qv 1) (aO aF bJ rfl T.iF bF (qv 0)) (fm _)) (aq (aM (fo hu (qv 0) (qv 1))))
   aG)
   (aq (aM az)))) pM
theorem lq:gL u_ ["_law_cell"] (bG di):=⟨rfl,rfl,rfl,by decide +kernel,rfl,by decide +kernel,by decide +kernel⟩
theorem uU {f:Addr} {fd:FuncData} (F:eK K "_law_sign" "_law_sign" di f fd) (T:Txt K mg)  : fi P w K mg base iO 1 f fd ["_law_cell"] (aA K bK) :=
 n9.ok (t:=jb) F lq sX (λbT A outer s H E hr =>
  have nd:=lq.nd;have hu:=hr.units
  (aj (aZ (i:=1) nd rfl (Or.inl rfl) aB) (aj (aZ (i:=1) nd rfl (Or.inl rfl) (cL (qv 1) aB)) (aj (bD (aQ (ub (K:=K) hu) jV (eU (qv 0) az) az (fm _)) (aq (aM (fo hu aB (eU (dX (qv 0) az) az))))
   aG)
   (aq (aM (fo hu (qv 1) (eU (dX (qv 0) az) az)))))))) wR
theorem iV:gL oX ["_law_cell"] (bG b8):=⟨rfl,rfl,rfl,by decide +kernel,rfl,by decide +kernel,by decide +kernel⟩
theorem pB {f:Addr} {fd:FuncData} (F:eK K "_law_number" "_law_number" b8 f fd) (T:Txt K mg)  : fi P w K mg base iO 1 f fd ["_law_cell"] (aA K bz) :=
 n9.ok (t:=gB) F iV mJ (λbT A outer s H E hr =>
  have nd:=iV.nd;have hu:=hr.units
  (aj (aZ (i:=1) nd rfl (Or.inl rfl) (eU (qv 0) az)) (aj (bD (aQ (ub (K:=K) hu) jV (qv 1) az (fm _)) (aq (aM (cH fZ jZ rfl T.tf iQ (eU (dX (qv 0) az) az))))
   aG)
   (aj (bD (aQ (ub (K:=K) hu) jV (qv 1) az (fm _))
   (aq (aM (cL aB (cH fZ jZ rfl T.tf iQ (eU (dX (qv 0) az) az)))))
   aG)
   (aq (aM (cH fZ jZ rfl T.tf iQ (eU (dX (qv 0) az) az)))))))) qY
theorem fW:gL gf ["_law_word"] (bG aY):=⟨rfl,rfl,rfl,by decide +kernel,rfl,by decide +kernel,by decide +kernel⟩
theorem jP {f:Addr} {fd:FuncData} (F:eK K "_law_is_number" "_law_is_number" aY f fd) (T:Txt K mg)  : fi P w K mg base iO 1 f fd ["_law_word"] (aA K aN) :=
 n9.ok (t:=dJ) F fW jJ (λbT A outer s H E hr =>
  have nd:=fW.nd;have hu:=hr.units
  (aj (bD (yn (jH (aQ (wt (K:=K) hu) lV (aO aF bJ rfl T.iF bF (mK (tn:=["_law_sign_here"]) (cn:=[]) (ix:=[]) rfl (yo (xg (qv 0))) (cG.of (sc:=bG aY) (N:=gf) rfl rfl (by decide +kernel)) (λ_ _ _ _=>(cD (i:=0) (show(["_law_sign_here"]:List Str).Nodup by decide +kernel) rfl (Or.inl rfl) (.inr rfl))) (λ_ _ _ _=>(mL (jj fY fY jR jR aB (qv 0) aB))) (λ_ _ _ _=>(qv 0)))) (aO aF bJ rfl T.iF bF (qv 0)) (fm _)) (gW (cT (jj fY fY jR jR az (aO aF bJ rfl T.iF bF (qv 0)) az))))) (aq (aM xa))
   aG)
   (aq (aM (Vo (ue (ub (K:=K) hu) jV (qv 0) aB (fm _)) (ur (ue (wt (K:=K) hu) lV (fo hu (qv 0) az) aB (fm _)))))))) lR
theorem gU:gL ig ["_law_word"] (bG bw):=⟨rfl,rfl,rfl,by decide +kernel,rfl,by decide +kernel,by decide +kernel⟩
theorem nq {f:Addr} {fd:FuncData} (F:eK K "_law_is_deed" "_law_is_deed" bw f fd) (T:Txt K mg)  : fi P w K mg base iO 1 f fd ["_law_word"] (aA K bC) :=
 n9.ok (t:=fO) F gU lU (λbT A outer s H E hr =>
  have nd:=gU.nd;have hu:=hr.units
  (aj (bD (aQ (ub (K:=K) hu) jV (qv 0) aB (fm _)) (aq (aM xa))
   aG)
   (aq (aM (yE (Cp fY fY jR jR az (aO aF bJ rfl T.iF bF (qv 0)) az) (ur (ue (ub (K:=K) hu) jV (aO aF bJ rfl T.iF bF (mK (tn:=["_law_sign_here"]) (cn:=[]) (ix:=[]) rfl (yo (xg (qv 0))) (cG.of (sc:=bG bw) (N:=ig) rfl rfl (by decide +kernel)) (λ_ _ _ _=>(cD (i:=0) (show(["_law_sign_here"]:List Str).Nodup by decide +kernel) rfl (Or.inl rfl) (.inr rfl))) (λ_ _ _ _=>(mL (jj fY fY jR jR aB (qv 0) aB))) (λ_ _ _ _=>(qv 0)))) (aO aF bJ rfl T.iF bF (qv 0)) (fm _)))))))) oY
theorem qd:gL yD ["thing"] (bG fQ):=⟨rfl,rfl,rfl,by decide +kernel,rfl,by decide +kernel,by decide +kernel⟩
theorem yO {f:Addr} {fd:FuncData} (F:eK K "is_deed" "is_deed" fQ f fd) (T:Txt K mg) (Rg:dP P w K mg base 1 "is_open" ["thing"] (aA K b_)):fi P w K mg base iO 2 f fd ["thing"] (aA K cj) :=
 n9.ok (t:=oR) F qd vD (λbT A outer s H E hr =>
  have nd:=qd.nd;have hu:=hr.units
  (aq (aM (Vo (cY Rg (hr.mono (by decide)) (aa (qv 0) aD)) (ur (yE (uH T.kS (qv 0) (sO T.tf iQ)) (ur (ue (ub (K:=K) hu) jV (qv 0) (Vn T.Q7) (fm _))))))))) Bl
theorem oM:gL wM ["many", "thing"] (bG d_):=⟨rfl,rfl,rfl,by decide +kernel,rfl,by decide +kernel,by decide +kernel⟩
theorem wg {f:Addr} {fd:FuncData} (F:eK K "is_state" "is_state" d_ f fd) (T:Txt K mg) (Rh:dP P w K mg base 1 "is_whole" ["thing"] (aA K bO)):fi P w K mg base iO 2 f fd ["many", "thing"] (aA K cM) :=
 n9.ok (t:=kj) F oM tW (λbT A outer s H E hr =>
  have nd:=oM.nd;have hu:=hr.units
  (aq (aM (yE (cY Rh (hr.mono (by decide)) (aa (qv 1) aD)) (ur (Cp fY m5 jR wD az (qv 1) (qv 0))))))) yL
theorem ie:gL eG ["m"] (bG aL):=⟨rfl,rfl,rfl,by decide +kernel,rfl,by decide +kernel,by decide +kernel⟩
theorem pQ {f:Addr} (T:Txt K mg) (Wj:dP P w K mg base 1 "deeds_of" ["m"] (aA K cN)) (Rg:dP P w K mg base 1 "is_open" ["thing"] (aA K b_)) (bT:Value) (A:Around) (outer:List PySem.Env) (s:Shared) (H:Hp) (E:XK) (hr:gI 1 (A.deeper (envOfC "check_bounds" (bG aL) s.heap.objs.size f bT))) :
  nX (kD (fT P w mg rn) P w K mg base eG "check_bounds" (bG aL) f bT A outer s H E) K (LX rn mg E) (eM aL) fM :=
 have nd:=ie.nd;have hu:(A.deeper (envOfC "check_bounds" (bG aL) s.heap.objs.size f bT)).units+64<cLine:=hr.units
 (aj (bD (aQ ql yU (fo hu (qv 0) az) (OS T.Q_) (fm _)) (aq (cI rfl gH T.Wi (.tail _ (.tail _ (.head _))) aB))
   aG)
   (aj (bD (aQ ql yU (aO aF bJ rfl T.iF bF (fo hu (qv 0) az)) (OS T.Ra) (fm _))
   (aq (cI rfl gH T.Wi (.tail _ (.tail _ (.head _))) aB))
   aG)
   (aq (bD (aQ ql yU (aO aF bJ rfl T.iF bF (mK (tn:=["deed"]) (cn:=[]) (ix:=[]) rfl (q_ (cY Wj (hr.mono (by decide)) (aa (qv 0) aD))) (cG.of (sc:=bG aL) (N:=eG) rfl rfl (by decide +kernel)) (λ_ _ _ _=>(cD (i:=0) (show(["deed"]:List Str).Nodup by decide +kernel) rfl (Or.inl rfl) (.inr rfl))) (λ_ _ _ _=>(mL (dH (cY Rg (hr.mono (by decide)) (aa (qv 0) aD))))) (λ_ _ _ _=>(qv 0)))) (OS T.Rb) (fm _))
   (aq (cI rfl gH T.Wi (.tail _ (.tail _ (.head _))) aB))
   aG))))
theorem oG {f:Addr} {fd:FuncData} (F:eK K "check_bounds" "check_bounds" aL f fd) (T:Txt K mg) (Wj:dP P w K mg base 1 "deeds_of" ["m"] (aA K cN)) (Rg:dP P w K mg base 1 "is_open" ["thing"] (aA K b_)):fi P w K mg base (fT P w mg rn) 2 f fd ["m"] (cV K rn mg bj) :=
 D0.ok F ie lK (pQ T Wj Rg) pL
theorem iI:gL iK ["word"] (bG aU):=⟨rfl,rfl,rfl,by decide +kernel,rfl,by decide +kernel,by decide +kernel⟩
theorem rK {f:Addr} (T:Txt K mg) (Wk:dP P w K mg base 1 "is_number" ["word"] (aA K bU)) (bT:Value) (A:Around) (outer:List PySem.Env) (s:Shared) (H:Hp) (E:XK) (hr:gI 1 (A.deeper (envOfC "read_number" (bG aU) s.heap.objs.size f bT))) :
  nX (kD (fT P w mg rn) P w K mg base iK "read_number" (bG aU) f bT A outer s H E) K (LX rn mg E) (eM aU) gw :=
 have nd:=iI.nd;have hu:(A.deeper (envOfC "read_number" (bG aU) s.heap.objs.size f bT)).units+64<cLine:=hr.units
 (aj (bD (cT (dH (cY Wk (hr.mono (by decide)) (aa (qv 0) aD)))) (aq (cI rfl gH T.Kj (.tail _ (.head _)) aB))
   aG)
   (aq (aM (cH gM nR rfl T.AB qw (qv 0)))))
theorem pN {f:Addr} {fd:FuncData} (F:eK K "read_number" "read_number" aU f fd) (T:Txt K mg) (Wk:dP P w K mg base 1 "is_number" ["word"] (aA K bU)):fi P w K mg base (fT P w mg rn) 2 f fd ["word"] (cV K rn mg aK) :=
 D0.ok F iI mq (rK T Wk) rF
theorem m_:gL vI ["_law_cell"] (bG eE):=⟨rfl,rfl,rfl,by decide +kernel,rfl,by decide +kernel,by decide +kernel⟩
theorem wy {f:Addr} {fd:FuncData} (F:eK K "_law_odd" "_law_odd" eE f fd) (T:Txt K mg) (Wl:dP P w K mg base 1 "_law_sign" ["_law_cell"] (aA K bK)):fi P w K mg base iO 2 f fd ["_law_cell"] (aA K dh) :=
 n9.ok (t:=jW) F m_ uL (λbT A outer s H E hr =>
  have nd:=m_.nd;have hu:=hr.units
  (by(refine aj ?_ ?_);(with_reducible refine aZ (i:=1) ?_ ?_ ?_ ?_ ?_ ?_);(exact nd);(rfl);(exact Or.inl rfl);(with_reducible refine fL ?_);(with_reducible refine aa ?_ ?_ ?_);(exact aB);(with_reducible refine aa ?_ ?_ ?_);(exact aB);(with_reducible refine aa ?_ ?_ ?_);(exact aB);(with_reducible refine aa ?_ ?_ ?_);(exact aB);(with_reducible refine aa ?_ ?_ ?_);(exact aB);(with_reducible refine aa ?_ ?_ ?_);(exact aB);(with_reducible refine aa ?_ ?_ ?_);(exact aB);(with_reducible refine aa ?_ ?_ ?_);(exact aB);(with_reducible refine aa ?_ ?_ ?_);(exact aB);(with_reducible refine aa ?_ ?_ ?_);(exact aB);(with_reducible refine aa ?_ ?_ ?_);(exact aB);(with_reducible refine aa ?_ ?_ ?_);(exact aB);(exact aD);(rfl);(rfl);(rfl);(rfl);(rfl);(rfl);(rfl);(rfl);(rfl);(rfl);(rfl);(rfl);(rfl);(first|exact .inl rfl|exact .inr rfl);(exact(by(refine aj ?_ ?_);(with_reducible refine lY (i:=1) ?_ ?_ ?_ ?_ ?_ ?_ ?_ ?_);(exact nd);(rfl);(exact Or.inl rfl);(exact(pv 1));(with_reducible refine fL ?_);(with_reducible refine aa ?_ ?_ ?_);(exact aB);(with_reducible refine aa ?_ ?_ ?_);(exact aB);(with_reducible refine aa ?_ ?_ ?_);(exact aB);(with_reducible refine aa ?_ ?_ ?_);(exact aB);(with_reducible refine aa ?_ ?_ ?_);(exact aB);(with_reducible refine aa ?_ ?_ ?_);(exact aB);(with_reducible refine aa ?_ ?_ ?_);(exact aB);(with_reducible refine aa ?_ ?_ ?_);(exact aB);(with_reducible refine aa ?_ ?_ ?_);(exact aB);(with_reducible refine aa ?_ ?_ ?_);(exact aB);(with_reducible refine aa ?_ ?_ ?_);(exact aB);(exact aD);(rfl);(rfl);(rfl);(rfl);(rfl);(rfl);(rfl);(rfl);(rfl);(rfl);(rfl);(rfl);(rfl);(first|exact .inl rfl|exact .inr rfl);(exact(by(refine aj ?_ ?_);(with_reducible refine lY (i:=1) ?_ ?_ ?_ ?_ ?_ ?_ ?_ ?_);(exact nd);(rfl);(exact Or.inl rfl);(exact(pv 1));(with_reducible refine fL ?_);(with_reducible refine aa ?_ ?_ ?_);(exact aB);(with_reducible refine aa ?_ ?_ ?_);(exact aB);(with_reducible refine aa ?_ ?_ ?_);(exact aB);(with_reducible refine aa ?_ ?_ ?_);(exact aB);(with_reducible refine aa ?_ ?_ ?_);(exact aB);(with_reducible refine aa ?_ ?_ ?_);(exact aB);(with_reducible refine aa ?_ ?_ ?_);(exact aB);(exact aD);(rfl);(rfl);(rfl);(rfl);(rfl);(rfl);(rfl);(rfl);(rfl);(first|exact .inl rfl|exact .inr rfl);(exact(by(refine aj ?_ ?_);(with_reducible refine lY (i:=1) ?_ ?_ ?_ ?_ ?_ ?_ ?_ ?_);(exact nd);(rfl);(exact Or.inl rfl);(exact(pv 1));(with_reducible refine fL ?_);(with_reducible refine aa ?_ ?_ ?_);(exact aB);(with_reducible refine aa ?_ ?_ ?_);(exact aB);(with_reducible refine aa ?_ ?_ ?_);(exact aB);(with_reducible refine aa ?_ ?_ ?_);(exact aB);(with_reducible refine aa ?_ ?_ ?_);(exact aB);(with_reducible refine aa ?_ ?_ ?_);(exact aB);(with_reducible refine aa ?_ ?_ ?_);(exact aB);(with_reducible refine aa ?_ ?_ ?_);(exact aB);(exact aD);(rfl);(rfl);(rfl);(rfl);(rfl);(rfl);(rfl);(rfl);(rfl);(rfl);(first|exact .inl rfl|exact .inr rfl);(exact(by(refine aj ?_ ?_);(with_reducible refine lY (i:=1) ?_ ?_ ?_ ?_ ?_ ?_ ?_ ?_);(exact nd);(rfl);(exact Or.inl rfl);(exact(pv 1));(with_reducible refine fL ?_);(with_reducible refine aa ?_ ?_ ?_);(exact aB);(with_reducible refine aa ?_ ?_ ?_);(exact aB);(with_reducible refine aa ?_ ?_ ?_);(exact yZ);(with_reducible refine aa ?_ ?_ ?_);(exact az);(with_reducible refine aa ?_ ?_ ?_);(with_reducible refine fL ?_);(with_reducible refine aa ?_ ?_ ?_);(exact aB);(exact aD);(rfl);(exact aD);(rfl);(rfl);(rfl);(rfl);(rfl);(rfl);(rfl);(first|exact .inl rfl|exact .inr rfl);(exact(aj (aZ (i:=2) nd rfl (Or.inl rfl) (cY Wl (hr.mono (by decide)) (aa (dX (qv 0) az) aD))) (aj (bD (aQ (ub (K:=K) hu) jV (eU (qv 0) az) az (fm _)) (aq (gY 2 (aM (cL (cL (cL aB (qv 2)) aB) (fo hu (fL (aa aB (aa (qv 2) aD))) (eU (dX (qv 0) az) az))))))
   aG)
   (aq (D_ (pv 1) (eU (dX (qv 0) az) (aO aF bJ rfl T.iF bF (qv 1)))))))))))))))))) zb
theorem kJ:gL tZ ["_law_script"] (bG dB):=⟨rfl,rfl,rfl,by decide +kernel,rfl,by decide +kernel,by decide +kernel⟩
theorem tU {f:Addr} {fd:FuncData} (F:eK K "_law_made" "_law_made" dB f fd) (T:Txt K mg) (Wm:dP P w K mg base 1 "_law_cell_at" ["_law_script", "_law_k"] (aA K aV)) (eC':dP P w K mg base 1 "_law_number" ["_law_cell"] (aA K bz)):fi P w K mg base iO 2 f fd ["_law_script"] (aA K cP) :=
 n9.ok (t:=iZ) F kJ qL (λbT A outer s H E hr =>
  have nd:=kJ.nd;have hu:=hr.units
  (aj (aZ (i:=1) nd rfl (Or.inl rfl) (cY Wm (hr.mono (by decide)) (aa (qv 0) (aa az aD)))) (aj (aZ (i:=2) nd rfl (Or.inl rfl) (fo hu (fL (aa az (aa az (aa (cL az (eU (dX (qv 1) az) az)) (aa (eU (dX (qv 1) az) az) aD))))) (eU (dX (qv 1) az) az))) (aj (aZ (i:=3) nd rfl (Or.inl rfl) (cU (fL (aa aB (aa aB (aa aB (aa aB (aa aB (aa aB (aa aB (aa aB aD))))))))) dN (cA (fo hu (fL (aa az (aa az (aa az (aa az aD))))) (eU (dX (qv 1) az) az))))) (aj (aZ (i:=4) nd rfl (Or.inl rfl) (fo hu (fL (aa az (aa az (aa az (aa (cL az (eU (dX (qv 1) az) az)) aD))))) (eU (dX (qv 1) az) az))) (aj (aZ (i:=5) nd rfl (Or.inl rfl) (fL aD)) (aj (mC PassesOwn.never rfl (Ht T.QN (Be IW GC rfl T.Qr Ij (qv 4) (L_ az (aO aF bJ rfl T.iF bF (qv 3))))) (cD (i:=6) nd rfl (Or.inl rfl)) (aj (aZ (i:=7) nd rfl (Or.inl rfl) (lQ (aa (eU (qv 6) az) (aa (fo hu (qv 3) (eU (dX (qv 6) az) (aO aF bJ rfl T.iF bF (qv 3)))) (aa (dX (dX (qv 6) az) (aO aF bJ rfl T.iF bF (qv 3))) aD))))) (aq (zq (ou (pv 5)) (cL (cL (cL (cL (cH fZ jZ rfl T.tf iQ (fo hu (qv 7) az)) aB) (fo hu (qv 7) az)) aB) (cH fZ jZ rfl T.tf iQ (fo hu (qv 7) az))))))) (aj (gY 0 (mC PassesOwn.never rfl (oW (cU (qv 0) (cA az) (cA az))) (cD (i:=8) nd rfl (Or.inl rfl)) (aj (aZ (i:=9) nd rfl (Or.inl rfl) (fo hu (qv 3) (eU (dX (qv 8) az) (aO aF bJ rfl T.iF bF (qv 3))))) (aq (zq (ou (pv 5)) (cL (cL (cL (cL (cY eC' (hr.mono (by decide)) (aa (qv 8) aD)) aB) (qv 9)) aB) (cY eC' (hr.mono (by decide)) (aa (dX (qv 8) az) aD)))))))) (aj (aZ (i:=10) nd rfl (Or.inl rfl) (cL (cH fZ jZ rfl T.tf iQ (qv 2)) aB)) (aj (bD (aQ (wt (K:=K) hu) lV (qv 5) (fL aD) (fm _)) (aq (aZ (i:=10) nd rfl (Or.inl rfl) (cL (cL (qv 10) aB) (Ie aB (qv 5)))))
   aG)
   (aq (qM (pv 10))))))))))))) vZ
theorem iW:gL pC ["_law_text", "_law_cell"] (bG bZ):=⟨rfl,rfl,rfl,by decide +kernel,rfl,by decide +kernel,by decide +kernel⟩
theorem pA {f:Addr} {fd:FuncData} (F:eK K "_law_spoilt" "_law_spoilt" bZ f fd) (T:Txt K mg) (Wl:dP P w K mg base 1 "_law_sign" ["_law_cell"] (aA K bK)):fi P w K mg base iO 2 f fd ["_law_text", "_law_cell"] (aA K bQ) :=
 n9.ok (t:=gA) F iW nU (λbT A outer s H E hr =>
  have nd:=iW.nd;have hu:=hr.units
  (aj (aZ (i:=2) nd rfl (Or.inl rfl) (eU (dX (qv 1) az) (cL (aO aF bJ rfl T.iF bF (qv 0)) az))) (aj (aZ (i:=3) nd rfl (Or.inl rfl) (eU (qv 1) az)) (aj (aZ (i:=4) nd rfl (Or.inl rfl) (cY Wl (hr.mono (by decide)) (aa (dX (dX (qv 1) az) (cL (aO aF bJ rfl T.iF bF (qv 0)) az)) aD))) (aj (bD (aQ m5 wD (qv 3) az (fm _)) (aq (aM (cL (cL (cU (qv 0) dN (cA (qv 2))) (qv 4)) (cU (qv 0) (cA (qv 2)) dN))))
   aG)
   (aj (bD (aQ m5 wD (qv 3) az (fm _))
   (aq (aM (cL (cL (cU (qv 0) dN (cA (qv 2))) (qv 4)) (cU (qv 0) (cA (cL (qv 2) az)) dN))))
   aG)
   (aj (bD (aQ m5 wD (qv 3) az (fm _))
   (aq (aM (cL (cU (qv 0) dN (cA (qv 2))) (cU (qv 0) (cA (cL (qv 2) az)) dN))))
   aG)
   (aj (bD (aQ (ub (K:=K) hu) jV (qv 3) az (fm _))
   (aq (aM (cL (cU (qv 0) dN (cA (qv 2))) (cU (qv 0) (cA (Be IV Gr rfl T.Qb Js az (K4 (qv 2) (eU (dX (dX (qv 1) az) (cL (aO aF bJ rfl T.iF bF (qv 0)) az)) az)))) dN))))
   aG)
   (aq (qM (pv 0))))))))))) rO
theorem jh:gL rT ["_law_text"] (bG cQ):=⟨rfl,rfl,rfl,by decide +kernel,rfl,by decide +kernel,by decide +kernel⟩
theorem sV {f:Addr} {fd:FuncData} (F:eK K "_law_parts" "_law_parts" cQ f fd) (T:Txt K mg) (Wn:dP P w K mg base 1 "_law_is_number" ["_law_word"] (aA K aN)) (mr':dP P w K mg base 1 "_law_is_deed" ["_law_word"] (aA K bC)):fi P w K mg base iO 2 f fd ["_law_text"] (aA K bL) :=
 n9.ok (t:=gO) F jh pU (λbT A outer s H E hr =>
  have nd:=jh.nd;have hu:=hr.units
  (aj (aZ (i:=1) nd rfl (Or.inl rfl) (fo hu (nZ (qv 0) aB) az)) (aj (bD (yn (jH (aQ (Jm (K:=K) hu) Dv aB (qv 0) (by rfl)) (gW (cT (dH (cY Wn (hr.mono (by decide)) (aa (qv 1) aD))))))) (aq (aM yZ))
   aG)
   (aj (aZ (i:=2) nd rfl (Or.inl rfl) (cU (qv 0) (cA (cL (aO aF bJ rfl T.iF bF (qv 1)) az)) dN))
   (aj (bD (aQ (ub (K:=K) hu) jV (qv 2) aB (fm _))
   (aq (aM (lQ (aa (cH gM nR rfl T.AB qw (qv 1)) (aa (fL aD) aD)))))
   aG)
   (aj (bD (aQ (wt (K:=K) hu) lV (fo hu (qv 2) az) aB (fm _))
   (aq (aM yZ))
   aG)
   (aj (aZ (i:=3) nd rfl (Or.inl rfl) (fL aD))
   (aj (mC PassesOwn.never rfl (oW (nZ (cU (qv 2) (cA az) dN) aB)) (cD (i:=4) nd rfl (Or.inl rfl))
   (aj (aZ (i:=5) nd rfl (Or.inl rfl) (nZ (qv 4) aB))
   (aj (bD (yn (jH (aQ (wt (K:=K) hu) lV (aO aF bJ rfl T.iF bF (qv 5)) az (fm _)) (jH (cT (dH (cY Wn (hr.mono (by decide)) (aa (fo hu (qv 5) az) aD)))) (gW (cT (dH (cY Wn (hr.mono (by decide)) (aa (fo hu (qv 5) az) aD))))))))
   (aq (aM yZ))
   aG)
   (aj (bD (cT (dH (cY mr' (hr.mono (by decide)) (aa (fo hu (qv 5) az) aD))))
   (aq (aM yZ))
   aG)
   (aq (zq (ou (pv 3)) (lQ (aa (cH gM nR rfl T.AB qw (fo hu (qv 5) az)) (aa (fo hu (qv 5) az) (aa (cH gM nR rfl T.AB qw (fo hu (qv 5) az)) aD))))))))))
   (aq (zB (dq' (cH gM nR rfl T.AB qw (qv 1)) (dr' (pv 3) Ep)))))))))))) uZ
theorem p_:gL yK ["many", "thing"] (bG fX):=⟨rfl,rfl,rfl,by decide +kernel,rfl,by decide +kernel,by decide +kernel⟩
theorem zg {f:Addr} {fd:FuncData} (F:eK K "is_step" "is_step" fX f fd) (T:Txt K mg) (eD':dP P w K mg base 2 "is_state" ["many", "thing"] (aA K cM)) (Ri:dP P w K mg base 2 "is_deed" ["thing"] (aA K cj)):fi P w K mg base iO 3 f fd ["many", "thing"] (aA K dq) :=
 n9.ok (t:=oH) F p_ vH (λbT A outer s H E hr =>
  have nd:=p_.nd;have hu:=hr.units
  (aj (bD (yn (jH (cT (dH (uH T.kS (qv 1) (sO T.QY Cr)))) (gW (aQ (wt (K:=K) hu) lV (aO aF bJ rfl T.iF bF (qv 1)) az (fm _))))) (aq (aM xa))
   aG)
   (aq (aM (yE (cY eD' (hr.mono (by decide)) (aa (qv 0) (aa (fo hu (qv 1) az) aD))) (yE (cY Ri (hr.mono (by decide)) (aa (fo hu (qv 1) az) aD)) (ur (cY eD' (hr.mono (by decide)) (aa (qv 0) (aa (fo hu (qv 1) az) aD)))))))))) zu
theorem lJ:gL lG ["word"] (bG bA):=⟨rfl,rfl,rfl,by decide +kernel,rfl,by decide +kernel,by decide +kernel⟩
theorem wJ {f:Addr} (T:Txt K mg) (Ri:dP P w K mg base 2 "is_deed" ["thing"] (aA K cj)) (bT:Value) (A:Around) (outer:List PySem.Env) (s:Shared) (H:Hp) (E:XK) (hr:gI 2 (A.deeper (envOfC "read_deed" (bG bA) s.heap.objs.size f bT))) :
  nX (kD (fT P w mg rn) P w K mg base lG "read_deed" (bG bA) f bT A outer s H E) K (LX rn mg E) (eM bA) jf :=
 have nd:=lJ.nd;have hu:(A.deeper (envOfC "read_deed" (bG bA) s.heap.objs.size f bT)).units+64<cLine:=hr.units
 (aj (bD (cT (dH (cY Ri (hr.mono (by decide)) (aa (qv 0) aD)))) (aq (cI rfl gH T.Kj (.tail _ (.head _)) aB))
   aG)
   (aq (qM (pv 0))))
theorem tM {f:Addr} {fd:FuncData} (F:eK K "read_deed" "read_deed" bA f fd) (T:Txt K mg) (Ri:dP P w K mg base 2 "is_deed" ["thing"] (aA K cj)):fi P w K mg base (fT P w mg rn) 3 f fd ["word"] (cV K rn mg bV) :=
 D0.ok F lJ rH (wJ T Ri) vW
theorem nJ:gL oU ["_law_text"] (bG dw):=⟨rfl,rfl,rfl,by decide +kernel,rfl,by decide +kernel,by decide +kernel⟩
theorem vV {f:Addr} {fd:FuncData} (F:eK K "_law_due" "_law_due" dw f fd) (T:Txt K mg) (eE':dP P w K mg base 2 "_law_parts" ["_law_text"] (aA K bL)):fi P w K mg base iO 3 f fd ["_law_text"] (aA K cJ) :=
 n9.ok (t:=kh) F nJ uG (λbT A outer s H E hr =>
  have nd:=nJ.nd;have hu:=hr.units
  (aj (bD (yn (jH (cT (dH (uH T.kS (qv 0) (sO T.tf iQ)))) (gW (aQ gX' JC (ea' (cY eE' (hr.mono (by decide)) (aa (qv 0) aD))) yZ (fm _))))) (aq (aM (lQ (aa aB (aa aB aD)))))
   aG)
   (aj (Gk (i:=1) (j:=2) rfl nd rfl (Or.inr rfl) rfl (Or.inl rfl) (ea' (cY eE' (hr.mono (by decide)) (aa (qv 0) aD))))
   (aj (bD (yn (jH (aQ m5 wD (qv 1) az (fm _)) (gW (aQ (wt (K:=K) hu) lV (mK (tn:=["_law_step"]) (cn:=["_law_many"]) (ix:=[1]) rfl (q_ (qv 2)) (cG.of (sc:=bG dw) (N:=oU) rfl rfl (by decide +kernel)) (λ_ _ _ _=>(cD (i:=0) (show(["_law_step", "_law_many"]:List Str).Nodup by decide +kernel) rfl (Or.inl rfl) (.inr rfl))) (λ_ _ _ _=>(mL (yn (jH (aQ Er JR (fo hu (qv 0) az) (qv 1) (fm _)) (gW (aQ Er JR (fo hu (qv 0) az) (qv 1) (fm _))))))) (λ_ _ _ _=>(qv 0))) (fL aD) (fm _)))))
   (aq (aM (lQ (aa aB (aa aB aD)))))
   aG)
   (aj (aZ (i:=3) nd rfl (Or.inl rfl) GK)
   (aj (aZ (i:=4) nd rfl (Or.inl rfl) Fl)
   (aj (gY 2 (mC PassesOwn.never rfl (oW (qv 2)) (cD (i:=5) nd rfl (Or.inl rfl))
   (aj (Ac hu (ou (pv 3)) (qv 5) xa)
   (aq (bD (aQ (wt (K:=K) hu) lV (fo hu (qv 5) az) aB (fm _))
   (aq (Ac hu (ou (pv 4)) (fo hu (qv 5) az) xa))
   aG)))))
   (aj (bD (yn (jH (aQ ql yU (qv 1) az (fm _)) (jH (aQ ql yU (aO aF bJ rfl T.iF bF (qv 3)) az (fm _)) (gW (aQ ql yU (aO aF bJ rfl T.iF bF (qv 4)) az (fm _))))))
   (aq (aM (lQ (aa aB (aa aB aD)))))
   aG)
   (aq (gY 1 (aM (lQ (aa aB (aa (lQ (aa (qv 1) (aa (aO Iu Cy rfl T.FI mY (cH yW GD rfl T.Kb Cj (qv 3))) aD))) aD)))))))))))))) yq
theorem iU:gL iH ["many", "steps"] (bG aR):=⟨rfl,rfl,rfl,by decide +kernel,rfl,by decide +kernel,by decide +kernel⟩
theorem sI {f:Addr} (T:Txt K mg) (Rh:dP P w K mg base 1 "is_whole" ["thing"] (aA K bO)) (Wo:dP P w K mg base 3 "is_step" ["many", "thing"] (aA K dq)) (bT:Value) (A:Around) (outer:List PySem.Env) (s:Shared) (H:Hp) (E:XK) (hr:gI 3 (A.deeper (envOfC "check_parts" (bG aR) s.heap.objs.size f bT))) :
  nX (kD (fT P w mg rn) P w K mg base iH "check_parts" (bG aR) f bT A outer s H E) K (LX rn mg E) (eM aR) gq :=
 have nd:=iU.nd;have hu:(A.deeper (envOfC "check_parts" (bG aR) s.heap.objs.size f bT)).units+64<cLine:=hr.units
 (aj (bD (yn (jH (cT (dH (cY Rh (hr.mono (by decide)) (aa (qv 0) aD)))) (gW (aQ m5 wD (qv 0) az (fm _))))) (aq (cI rfl gH T.Wh (.head _) aB))
   aG)
   (aj (bD (cT (dH (uH T.kS (qv 1) (sO T.Kb Cj))))
   (aq (cI rfl gH T.Wh (.head _) aB))
   aG)
   (aq (gY 1 (mC PassesOwn.leaving rfl (oW (qv 1)) (cD (i:=2) nd rfl (Or.inl rfl))
   (aq (bD (cT (dH (cY Wo (hr.mono (by decide)) (aa (qv 0) (aa (qv 2) aD)))))
   (aq (cI rfl gH T.Wh (.head _) aB))
   aG)))))))
theorem pJ {f:Addr} {fd:FuncData} (F:eK K "check_parts" "check_parts" aR f fd) (T:Txt K mg) (Rh:dP P w K mg base 1 "is_whole" ["thing"] (aA K bO)) (Wo:dP P w K mg base 3 "is_step" ["many", "thing"] (aA K dq)):fi P w K mg base (fT P w mg rn) 4 f fd ["many", "steps"] (cV K rn mg bu) :=
 D0.ok F iU nu (sI T Rh Wo) rM
theorem lC:gL kO ["text"] (bG bB):=⟨rfl,rfl,rfl,by decide +kernel,rfl,by decide +kernel,by decide +kernel⟩
theorem vB {f:Addr} (T:Txt K mg) (D3:iX P w K mg base rn 2 "read_number" ["word"] aK) (Wq:iX P w K mg base rn 3 "read_deed" ["word"] bV) (bT:Value) (A:Around) (outer:List PySem.Env) (s:Shared) (H:Hp) (E:XK) (hr:gI 3 (A.deeper (envOfC "read_step" (bG bB) s.heap.objs.size f bT))) :
  nX (kD (fT P w mg rn) P w K mg base kO "read_step" (bG bB) f bT A outer s H E) K (LX rn mg E) (eM bB) i_ :=
 have nd:=lC.nd;have hu:(A.deeper (envOfC "read_step" (bG bB) s.heap.objs.size f bT)).units+64<cLine:=hr.units
 (aj (aZ (i:=1) nd rfl (Or.inl rfl) (nZ (qv 0) aB)) (aj (bD (aQ (wt (K:=K) hu) lV (aO aF bJ rfl T.iF bF (qv 1)) az (fm _)) (aq (cI rfl gH T.Kj (.tail _ (.head _)) aB))
   aG)
   (aq (zW (Jl (vy (qT D3 (hr.mono (by decide)) uC (aa (fo hu (qv 1) az) aD)) (vy (qT Wq (hr.mono (by decide)) uC (aa (fo hu (qv 1) az) aD)) (vy (qT D3 (hr.mono (by decide)) uC (aa (fo hu (qv 1) az) aD)) J9))))))))
theorem uO {f:Addr} {fd:FuncData} (F:eK K "read_step" "read_step" bB f fd) (T:Txt K mg) (D3:iX P w K mg base rn 2 "read_number" ["word"] aK) (Wq:iX P w K mg base rn 3 "read_deed" ["word"] bV):fi P w K mg base (fT P w mg rn) 4 f fd ["text"] (cV K rn mg bH) :=
 D0.ok F lC sY (vB T D3 Wq) vX
theorem zp:gL Ad ["many", "steps"] (bG iJ):=⟨rfl,rfl,rfl,by decide +kernel,rfl,by decide +kernel,by decide +kernel⟩
theorem JL {f:Addr} (T:Txt K mg) (Wr:iX P w K mg base rn 4 "check_parts" ["many", "steps"] bu) (Ws:iX P w K mg base rn 2 "check_bounds" ["m"] bj) (bT:Value) (A:Around) (outer:List PySem.Env) (s:Shared) (H:Hp) (E:XK) (hr:gI 4 (A.deeper (envOfC "made" (bG iJ) s.heap.objs.size f bT))) :
  nX (kD (fT P w mg rn) P w K mg base Ad "made" (bG iJ) f bT A outer s H E) K (LX rn mg E) (eM iJ) Bp :=
 have nd:=zp.nd;have hu:(A.deeper (envOfC "made" (bG iJ) s.heap.objs.size f bT)).units+64<cLine:=hr.units
 (aj (yg Wr (hr.mono (by decide)) uC (aa (qv 0) (aa (qv 1) aD))) (aj (gY 0 (aZ (i:=2) nd rfl (Or.inl rfl) (lQ (aa (qv 0) (aa (zc hu rfl T.FI rfl T.Ki (qv 1)) aD))))) (aj (yg Ws (hr.mono (by decide)) uC (aa (qv 2) aD)) (aq (qM (pv 2))))))
theorem Gh {f:Addr} {fd:FuncData} (F:eK K "made" "made" iJ f fd) (T:Txt K mg) (Wr:iX P w K mg base rn 4 "check_parts" ["many", "steps"] bu) (Ws:iX P w K mg base rn 2 "check_bounds" ["m"] bj):fi P w K mg base (fT P w mg rn) 5 f fd ["many", "steps"] (cV K rn mg je) :=
 D0.ok F zp Dd (JL T Wr Ws) Jd
theorem jq:gL gF ["text"] (bG aW):=⟨rfl,rfl,rfl,by decide +kernel,rfl,by decide +kernel,by decide +kernel⟩
theorem uz {f:Addr} (T:Txt K mg) (Wt:iX P w K mg base rn 4 "read_step" ["text"] bH) (bT:Value) (A:Around) (outer:List PySem.Env) (s:Shared) (H:Hp) (E:XK) (hr:gI 4 (A.deeper (envOfC "read_steps" (bG aW) s.heap.objs.size f bT))) :
  nX (kD (fT P w mg rn) P w K mg base gF "read_steps" (bG aW) f bT A outer s H E) K (LX rn mg E) (eM aW) gQ :=
 have nd:=jq.nd;have hu:(A.deeper (envOfC "read_steps" (bG aW) s.heap.objs.size f bT)).units+64<cLine:=hr.units
 (aj (bD (aQ (ub (K:=K) hu) jV (qv 0) aB (fm _)) (aq (aM (fL aD)))
   aG)
   (aj (bD (cT (dH (Ec (qv 0) aB)))
   (aq (cI rfl gH T.Kj (.tail _ (.head _)) aB))
   aG)
   (aq (zW (HX (tn:=["part"]) (cn:=[]) (ix:=[]) rfl (q_ (nZ (cU (qv 0) (cA az) dN) aB)) (cG.of (sc:=bG aW) (N:=gF) rfl rfl (by decide +kernel)) (λ_ _ _ _=>(cD (i:=0) (show(["part"]:List Str).Nodup by decide +kernel) rfl (Or.inl rfl) (.inr rfl))) (λ_ _ _ _=>qW) (λ_ _ _ _ S=>(qT Wt (hr.mono (by decide)) (MF S) (aa (qv 0) aD))))))))
theorem sZ {f:Addr} {fd:FuncData} (F:eK K "read_steps" "read_steps" aW f fd) (T:Txt K mg) (Wt:iX P w K mg base rn 4 "read_step" ["text"] bH):fi P w K mg base (fT P w mg rn) 5 f fd ["text"] (cV K rn mg bN) :=
 D0.ok F jq pG (uz T Wt) uq
theorem Bc:gL zK ["text"] (bG iD):=⟨rfl,rfl,rfl,by decide +kernel,rfl,by decide +kernel,by decide +kernel⟩
theorem Kg {f:Addr} (T:Txt K mg) (D3:iX P w K mg base rn 2 "read_number" ["word"] aK) (Wu:iX P w K mg base rn 5 "read_steps" ["text"] bN) (Wv:iX P w K mg base rn 5 "made" ["many", "steps"] je) (bT:Value) (A:Around) (outer:List PySem.Env) (s:Shared) (H:Hp) (E:XK) (hr:gI 5 (A.deeper (envOfC "read" (bG iD) s.heap.objs.size f bT))) :
  nX (kD (fT P w mg rn) P w K mg base zK "read" (bG iD) f bT A outer s H E) K (LX rn mg E) (eM iD) Cm :=
 have nd:=Bc.nd;have hu:(A.deeper (envOfC "read" (bG iD) s.heap.objs.size f bT)).units+64<cLine:=hr.units
 (aj (bD (cT (dH (uH T.kS (qv 0) (sO T.tf iQ)))) (aq (cI rfl gH T.Kj (.tail _ (.head _)) aB))
   aG)
   (aj (aZ (i:=1) nd rfl (Or.inl rfl) (G3 (qv 0) aB))
   (aj (bD (aQ (ub (K:=K) hu) jV (fo hu (qv 1) az) aB (fm _))
   (aq (cI rfl gH T.Kj (.tail _ (.head _)) aB))
   aG)
   (aj (wu D3 (hr.mono (by decide)) uC (i:=2) nd rfl (Or.inl rfl) (aa (fo hu (qv 1) az) aD))
   (aj (wu Wu (hr.mono (by decide)) uC (i:=3) nd rfl (Or.inl rfl) (aa (fo hu (qv 1) az) aD))
   (aq (G8 Wv (hr.mono (by decide)) uC (aa (qv 2) (aa (qv 3) aD)))))))))
theorem HQ {f:Addr} {fd:FuncData} (F:eK K "read" "read" iD f fd) (T:Txt K mg) (D3:iX P w K mg base rn 2 "read_number" ["word"] aK) (Wu:iX P w K mg base rn 5 "read_steps" ["text"] bN) (Wv:iX P w K mg base rn 5 "made" ["many", "steps"] je):fi P w K mg base (fT P w mg rn) 6 f fd ["text"] (cV K rn mg jU) :=
 D0.ok F Bc Cv (Kg T D3 Wu Wv) Ig
theorem jg:gL jE ["_law_text"] (bG bY):=⟨rfl,rfl,rfl,by decide +kernel,rfl,by decide +kernel,by decide +kernel⟩
theorem sS {f:Addr} {fd:FuncData} (F:eK K "_law_asked" "_law_asked" bY f fd) (T:Txt K mg) (ms':iX P w K mg base rn 6 "read" ["text"] jU):fi P w K mg base iO 7 f fd ["_law_text"] (aA K bM) :=
 n9.ok (t:=gR) F jg pX (λbT A outer s H E hr =>
  have nd:=jg.nd;have hu:=hr.units
  (aj (Ju (j:=2) (ρh:=λa=>[none,none,some (.xc a),none,none]) T.mf' nd rfl rfl rfl rfl (λa=>rfl) (λpn xe E1 hx1=>(aq (wu ms' (hr.mono (by decide)) hx1 (i:=1) nd rfl (Or.inl rfl) (aa (qv 0) aD)))) (λpn a oe n C hn hm xc hp Tw=>by
    have i6:=Tw.1;obtain⟨mt',mu',mw'⟩:=T.mg' n C hn hm;obtain⟨mx',my',mz'⟩:=T.mh' n C hn hm;obtain⟨mA',mB',mC'⟩:=T.mi' n C hn hm;obtain⟨mD',mE',mF'⟩:=T.mj' n C hn hm;obtain⟨mG',mH',mI'⟩:=T.ml' n C hn hm;obtain⟨mJ',mK',mL'⟩:=T.mm' n C hn hm;obtain⟨mM',mN',mO'⟩:=T.mn' n C hn hm;obtain⟨mP',mQ',mR'⟩:=T.mo' n C hn hm;obtain⟨mS',mT',mU'⟩:=T.mp' n C hn hm;exact(aj (aZ (i:=3) nd rfl (Or.inl rfl) (fL (aa (pF (vc:=.ref mA') (j:=2) T.kS hp i6 xc mC' (pv 2) (xI rfl mB' rfl) (λ_ r=>r)) (aa (pF (vc:=.ref mx') (j:=2) T.kS hp i6 xc mz' (pv 2) (xI rfl my' rfl) (λ_ r=>r)) (aa (pF (vc:=.ref mt') (j:=2) T.kS hp i6 xc mw' (pv 2) (xI rfl mu' rfl) (λ_ r=>r)) aD)))))
   (aj (aZ (i:=4) nd rfl (Or.inl rfl) (fL (aa (pF (vc:=.ref mM') (j:=2) T.kS hp i6 xc mO' (pv 2) (xI rfl mN' rfl) (λ_ r=>r)) (aa (pF (vc:=.ref mJ') (j:=2) T.kS hp i6 xc mL' (pv 2) (xI rfl mK' rfl) (λ_ r=>r)) (aa (pF (vc:=.ref mG') (j:=2) T.kS hp i6 xc mI' (pv 2) (xI rfl mH' rfl) (λ_ r=>r)) (aa (pF (vc:=.ref mD') (j:=2) T.kS hp i6 xc mF' (pv 2) (xI rfl mE' rfl) (λ_ r=>r)) aD))))))
   (aj (aZ (i:=4) nd rfl (Or.inl rfl) (cL (qv 4) (fL (aa (pF (vc:=.ref mS') (j:=2) T.kS hp i6 xc mU' (pv 2) (xI rfl mT' rfl) (λ_ r=>r)) (aa (pF (vc:=.ref mP') (j:=2) T.kS hp i6 xc mR' (pv 2) (xI rfl mQ' rfl) (λ_ r=>r)) aD)))))
   (aj (bD (yn (jH (cT (dH (pF (vc:=.ty "ValueError") (j:=2) T.kS hp i6 xc (T.mq' n C hn hm) (pv 2) (sO T.P8 rD) (λ_ r=>r)))) (jH (aQ (kc (K:=K) hu) Dv xa (qv 4) (by rfl)) (gW (aQ (wt (K:=K) hu) lV (aO aF bJ rfl T.iF bF (GX (tn:=["_law_one"]) (cn:=[]) (ix:=[]) rfl hp Tw (qv 3) (cG.of (sc:=bG bY) (N:=jE) rfl rfl (by decide +kernel)) (λ_ _ _ _=>(cD (i:=0) (show(["_law_one"]:List Str).Nodup by decide +kernel) rfl (Or.inl rfl) (.inr rfl))) (λ_ _ _ _=>(mL (G5 (qv 0)))) (λ_ _ _ _=>(qv 0)))) az (fm _))))))
   (aq (aM (lQ (aa aB (aa aB aD)))))
   aG)
   (aq (aM (lQ (aa aB (aa (fo hu (fL (aa aB (aa aB (aa aB aD)))) (Hj hu (qv 3) xa)) aD)))))))))))
   (aq (zB (dq' aB (dr' (pv 1) Ep)))))) vg
theorem Fb:gL IK ["_law_script"] (bG rB):=⟨rfl,rfl,rfl,by decide +kernel,rfl,by decide +kernel,by decide +kernel⟩
theorem mV' {f:Addr} {fd:FuncData} (F:eK K "law" "law" rB f fd) (T:Txt K mg) (mW':dP P w K mg base 2 "_law_made" ["_law_script"] (aA K cP)) (mX':dP P w K mg base 2 "_law_spoilt" ["_law_text", "_law_cell"] (aA K bQ)) (mY':dP P w K mg base 2 "_law_odd" ["_law_cell"] (aA K dh)) (Wm:dP P w K mg base 1 "_law_cell_at" ["_law_script", "_law_k"] (aA K aV)) (mZ':dP P w K mg base 7 "_law_asked" ["_law_text"] (aA K bM)) (nc':dP P w K mg base 3 "_law_due" ["_law_text"] (aA K cJ)):fi P w K mg base iO 8 f fd ["_law_script"] (aA K JJ) :=
 n9.ok (t:=Gy) F Fb Gv (λbT A outer s H E hr =>
  have nd:=Fb.nd;have hu:=hr.units
  (aj (aZ (i:=1) nd rfl (Or.inl rfl) (cY mW' (hr.mono (by decide)) (aa (qv 0) aD))) (aj (gY 1 (aZ (i:=2) nd rfl (Or.inl rfl) (qv 1))) (aj (gY 0 (mC PassesOwn.never rfl (oW (cU (qv 0) (cA az) (cA az))) (cD (i:=3) nd rfl (Or.inl rfl)) (aq (aZ (i:=2) nd rfl (Or.inl rfl) (cY mX' (hr.mono (by decide)) (aa (qv 2) (aa (qv 3) aD))))))) (aj (aZ (i:=4) nd rfl (Or.inl rfl) (cY mY' (hr.mono (by decide)) (aa (cY Wm (hr.mono (by decide)) (aa (qv 0) (aa az aD))) aD))) (aj (gY 1 (gY 4 (gY 2 (mC PassesOwn.never rfl (Jf (lQ (aa (qv 2) (aa (qv 4) (aa (qv 1) aD))))) (cD (i:=5) nd rfl (Or.inl rfl)) (aq (bD (aQ (wt (K:=K) hu) lV (cY mZ' (hr.mono (by decide)) (aa (qv 5) aD)) (cY nc' (hr.mono (by decide)) (aa (qv 5) aD)) (fm _)) (aq (aM xa))
   aG))))))
   (aq (aM xa)))))))) Ls
end
theorem nk{us:List Value}(h:us.length=1):∃ a0,us=[a0]:=by
 cases us with
 |nil=>simp at h
 |cons a0 us =>
 cases us with
 |nil=>exact⟨_,rfl⟩
 |cons b us=>simp at h
theorem Kk{us:List Value}(h:us.length=2):∃ a0 a1,us=[a0,a1]:=by
 cases us with
 |nil=>simp at h
 |cons a0 us =>
 cases us with
 |nil=>simp at h
 |cons a1 us =>
 cases us with
 |nil=>exact⟨_,_,rfl⟩
 |cons b us=>simp at h
theorem all_mk {l:PySem.W.OpenLaw} {w:World} {K:PySem.W.Frag} {h:Heap} {mg:Str->Option Value} {fa:Addr} (X:K.In h) (G:h.Ns mainGlobals mg) (hfa:mg "law" = some (.ref fa))(a0:PySem.W.nsIn K mainGlobals "is_open" = some (some (.ref f0))) (l0:K.lookup f0=some ⟨o0,d0,.func (PySem.W.fnOf "is_open" "is_open" (gi eO) (eM eO) (bG eO) .none v0 j0 p0 e0 r0 u0),t0⟩) (c0:PySem.W.codeIn K r0 "is_open" = true) (k0:PySem.W.keepIn K (.ref f0)=true)(a1:PySem.W.nsIn K mainGlobals "is_deed" = some (some (.ref f1))) (l1:K.lookup f1=some ⟨o1,d1,.func (PySem.W.fnOf "is_deed" "is_deed" (gi fQ) (eM fQ) (bG fQ) .none v1 j1 p1 e1 r1 u1),t1⟩) (c1:PySem.W.codeIn K r1 "is_deed" = true) (k1:PySem.W.keepIn K (.ref f1)=true)(a2:PySem.W.nsIn K mainGlobals "is_whole" = some (some (.ref f2))) (l2:K.lookup f2=some ⟨o2,d2,.func (PySem.W.fnOf "is_whole" "is_whole" (gi dZ) (eM dZ) (bG dZ) .none v2 j2 p2 e2 r2 u2),t2⟩) (c2:PySem.W.codeIn K r2 "is_whole" = true) (k2:PySem.W.keepIn K (.ref f2)=true)(a3:PySem.W.nsIn K mainGlobals "is_state" = some (some (.ref f3))) (l3:K.lookup f3=some ⟨o3,d3,.func (PySem.W.fnOf "is_state" "is_state" (gi d_) (eM d_) (bG d_) .none v3 j3 p3 e3 r3 u3),t3⟩) (c3:PySem.W.codeIn K r3 "is_state" = true) (k3:PySem.W.keepIn K (.ref f3)=true)(a4:PySem.W.nsIn K mainGlobals "is_step" = some (some (.ref f4))) (l4:K.lookup f4=some ⟨o4,d4,.func (PySem.W.fnOf "is_step" "is_step" (gi fX) (eM fX) (bG fX) .none v4 j4 p4 e4 r4 u4),t4⟩) (c4:PySem.W.codeIn K r4 "is_step" = true) (k4:PySem.W.keepIn K (.ref f4)=true)(a5:PySem.W.nsIn K mainGlobals "check_parts" = some (some (.ref f5))) (l5:K.lookup f5=some ⟨o5,d5,.func (PySem.W.fnOf "check_parts" "check_parts" (gi aR) (eM aR) (bG aR) .none v5 j5 p5 e5 r5 u5),t5⟩) (c5:PySem.W.codeIn K r5 "check_parts" = true) (k5:PySem.W.keepIn K (.ref f5)=true)(a6:PySem.W.nsIn K mainGlobals "check_bounds" = some (some (.ref f6))) (l6:K.lookup f6=some ⟨o6,d6,.func (PySem.W.fnOf "check_bounds" "check_bounds" (gi aL) (eM aL) (bG aL) .none v6 j6 p6 e6 r6 u6),t6⟩) (c6:PySem.W.codeIn K r6 "check_bounds" = true) (k6:PySem.W.keepIn K (.ref f6)=true)(a7:PySem.W.nsIn K mainGlobals "made" = some (some (.ref f7))) (l7:K.lookup f7=some ⟨o7,d7,.func (PySem.W.fnOf "made" "made" (gi iJ) (eM iJ) (bG iJ) .none v7 j7 p7 e7 r7 u7),t7⟩) (c7:PySem.W.codeIn K r7 "made" = true) (k7:PySem.W.keepIn K (.ref f7)=true)(a8:PySem.W.nsIn K mainGlobals "deeds_of" = some (some (.ref f8))) (l8:K.lookup f8=some ⟨o8,d8,.func (PySem.W.fnOf "deeds_of" "deeds_of" (gi du) (eM du) (bG du) .none v8 j8 p8 e8 r8 u8),t8⟩) (c8:PySem.W.codeIn K r8 "deeds_of" = true) (k8:PySem.W.keepIn K (.ref f8)=true)(a9:PySem.W.nsIn K mainGlobals "is_number" = some (some (.ref f9))) (l9:K.lookup f9=some ⟨o9,d9,.func (PySem.W.fnOf "is_number" "is_number" (gi cO) (eM cO) (bG cO) .none v9 j9 p9 e9 r9 u9),t9⟩) (c9:PySem.W.codeIn K r9 "is_number" = true) (k9:PySem.W.keepIn K (.ref f9)=true)(Ww:PySem.W.nsIn K mainGlobals "read_number" = some (some (.ref f10))) (l10:K.lookup f10=some ⟨o10,d10,.func (PySem.W.fnOf "read_number" "read_number" (gi aU) (eM aU) (bG aU) .none v10 j10 p10 e10 ER u10),t10⟩) (Wx:PySem.W.codeIn K ER "read_number" = true) (Wy:PySem.W.keepIn K (.ref f10)=true)(Wz:PySem.W.nsIn K mainGlobals "read_deed" = some (some (.ref f11))) (WB:K.lookup f11=some ⟨o11,d11,.func (PySem.W.fnOf "read_deed" "read_deed" (gi bA) (eM bA) (bG bA) .none v11 j11 p11 e11 r11 u11),t11⟩) (WC:PySem.W.codeIn K r11 "read_deed" = true) (WD:PySem.W.keepIn K (.ref f11)=true)(WH:PySem.W.nsIn K mainGlobals "read_step" = some (some (.ref f12))) (WK:K.lookup f12=some ⟨o12,d12,.func (PySem.W.fnOf "read_step" "read_step" (gi bB) (eM bB) (bG bB) .none v12 j12 p12 e12 r12 u12),t12⟩) (WL:PySem.W.codeIn K r12 "read_step" = true) (WM:PySem.W.keepIn K (.ref f12)=true)(WN:PySem.W.nsIn K mainGlobals "read_steps" = some (some (.ref f13))) (WQ:K.lookup f13=some ⟨o13,d13,.func (PySem.W.fnOf "read_steps" "read_steps" (gi aW) (eM aW) (bG aW) .none v13 j13 p13 e13 r13 u13),t13⟩) (WR:PySem.W.codeIn K r13 "read_steps" = true) (IY:PySem.W.keepIn K (.ref f13)=true)(WU:PySem.W.nsIn K mainGlobals "read" = some (some (.ref f14))) (WV:K.lookup f14=some ⟨o14,d14,.func (PySem.W.fnOf "read" "read" (gi iD) (eM iD) (bG iD) .none v14 j14 p14 e14 r14 u14),t14⟩) (WW:PySem.W.codeIn K r14 "read" = true) (WX:PySem.W.keepIn K (.ref f14)=true)(WY:PySem.W.nsIn K mainGlobals "_law_cell_at" = some (some (.ref f15))) (WZ:K.lookup f15=some ⟨o15,d15,.func (PySem.W.fnOf "_law_cell_at" "_law_cell_at" (gi bR) (eM bR) (bG bR) .none v15 j15 p15 e15 r15 u15),t15⟩) (W0:PySem.W.codeIn K r15 "_law_cell_at" = true) (W3:PySem.W.keepIn K (.ref f15)=true)(W4:PySem.W.nsIn K mainGlobals "_law_sign" = some (some (.ref f16))) (W5:K.lookup f16=some ⟨o16,d16,.func (PySem.W.fnOf "_law_sign" "_law_sign" (gi di) (eM di) (bG di) .none v16 j16 p16 e16 r16 u16),t16⟩) (c16:PySem.W.codeIn K r16 "_law_sign" = true) (W6:PySem.W.keepIn K (.ref f16)=true)(W7:PySem.W.nsIn K mainGlobals "_law_odd" = some (some (.ref f17))) (W8:K.lookup f17=some ⟨o17,d17,.func (PySem.W.fnOf "_law_odd" "_law_odd" (gi eE) (eM eE) (bG eE) .none v17 j17 p17 e17 r17 u17),t17⟩) (W9:PySem.W.codeIn K r17 "_law_odd" = true) (W_:PySem.W.keepIn K (.ref f17)=true)(Za:PySem.W.nsIn K mainGlobals "_law_number" = some (some (.ref f18))) (Zb:K.lookup f18=some ⟨o18,d18,.func (PySem.W.fnOf "_law_number" "_law_number" (gi b8) (eM b8) (bG b8) .none v18 j18 p18 e18 r18 u18),t18⟩) (Zc:PySem.W.codeIn K r18 "_law_number" = true) (Zd:PySem.W.keepIn K (.ref f18)=true)(Ze:PySem.W.nsIn K mainGlobals "_law_made" = some (some (.ref f19))) (Zf:K.lookup f19=some ⟨o19,d19,.func (PySem.W.fnOf "_law_made" "_law_made" (gi dB) (eM dB) (bG dB) .none v19 j19 p19 e19 r19 u19),t19⟩) (Zg:PySem.W.codeIn K r19 "_law_made" = true) (Zh:PySem.W.keepIn K (.ref f19)=true)(Zi:PySem.W.nsIn K mainGlobals "_law_spoilt" = some (some (.ref f20))) (Zj:K.lookup f20=some ⟨o20,d20,.func (PySem.W.fnOf "_law_spoilt" "_law_spoilt" (gi bZ) (eM bZ) (bG bZ) .none v20 j20 p20 e20 r20 u20),t20⟩) (Zk:PySem.W.codeIn K r20 "_law_spoilt" = true) (Zm:PySem.W.keepIn K (.ref f20)=true)(Zn:PySem.W.nsIn K mainGlobals "_law_is_number" = some (some (.ref f21))) (Zo:K.lookup f21=some ⟨o21,d21,.func (PySem.W.fnOf "_law_is_number" "_law_is_number" (gi aY) (eM aY) (bG aY) .none v21 j21 p21 e21 r21 u21),t21⟩) (Zq:PySem.W.codeIn K r21 "_law_is_number" = true) (Zr:PySem.W.keepIn K (.ref f21)=true)(Zt:PySem.W.nsIn K mainGlobals "_law_is_deed" = some (some (.ref f22))) (IE:K.lookup f22=some ⟨o22,d22,.func (PySem.W.fnOf "_law_is_deed" "_law_is_deed" (gi bw) (eM bw) (bG bw) .none v22 j22 p22 e22 r22 u22),t22⟩) (Zu:PySem.W.codeIn K r22 "_law_is_deed" = true) (Zv:PySem.W.keepIn K (.ref f22)=true)(Zw:PySem.W.nsIn K mainGlobals "_law_parts" = some (some (.ref f23))) (Zx:K.lookup f23=some ⟨o23,d23,.func (PySem.W.fnOf "_law_parts" "_law_parts" (gi cQ) (eM cQ) (bG cQ) .none v23 j23 p23 e23 r23 u23),t23⟩) (Zy:PySem.W.codeIn K r23 "_law_parts" = true) (AZ:PySem.W.keepIn K (.ref f23)=true)(Zz:PySem.W.nsIn K mainGlobals "_law_due" = some (some (.ref f24))) (ZC:K.lookup f24=some ⟨o24,d24,.func (PySem.W.fnOf "_law_due" "_law_due" (gi dw) (eM dw) (bG dw) .none v24 j24 p24 e24 r24 u24),t24⟩) (ZD:PySem.W.codeIn K r24 "_law_due" = true) (ZE:PySem.W.keepIn K (.ref f24)=true)(ZF:PySem.W.nsIn K mainGlobals "_law_asked" = some (some (.ref f25))) (ZG:K.lookup f25=some ⟨o25,d25,.func (PySem.W.fnOf "_law_asked" "_law_asked" (gi bY) (eM bY) (bG bY) .none v25 j25 p25 e25 r25 u25),t25⟩) (ZH:PySem.W.codeIn K r25 "_law_asked" = true) (ZI:PySem.W.keepIn K (.ref f25)=true)(ZJ:PySem.W.nsIn K mainGlobals "law" = some (some (.ref f26))) (ZK:K.lookup f26=some ⟨o26,d26,.func (PySem.W.fnOf "law" "law" (gi rB) (eM rB) (bG rB) .none v26 j26 p26 e26 r26 u26),t26⟩) (ZL:PySem.W.codeIn K r26 "law" = true) (ZM:PySem.W.keepIn K (.ref f26)=true)(P8:PySem.W.nsIn K mainGlobals "ValueError" = some none)(JY:PySem.W.nsIn K mainGlobals "all" = some none)(P9:PySem.W.nsIn K mainGlobals "bool" = some none)(AB:PySem.W.nsIn K mainGlobals "int" = some none)(kS:PySem.W.nsIn K mainGlobals "isinstance" = some none)(iF:PySem.W.nsIn K mainGlobals "len" = some none)(Kb:PySem.W.nsIn K mainGlobals "list" = some none)(Qb:PySem.W.nsIn K mainGlobals "max" = some none)(Qr:PySem.W.nsIn K mainGlobals "min" = some none)(QN:PySem.W.nsIn K mainGlobals "range" = some none)(Ki:PySem.W.nsIn K mainGlobals "set" = some none)(FI:PySem.W.nsIn K mainGlobals "sorted" = some none)(tf:PySem.W.nsIn K mainGlobals "str" = some none)(QY:PySem.W.nsIn K mainGlobals "tuple" = some none){nD':Tok} (Q7:PySem.W.nsIn K mainGlobals "HIDDEN" = some (some (.str "*" nD'))){nE':Tok} (Q8:PySem.W.nsIn K mainGlobals "LETTERS" = some (some (.str "abcdefghijklmnopqrstuvwxyz" nE'))){nF':Tok} (Q9:PySem.W.nsIn K mainGlobals "MOST_LETTERS" = some (some (.int 6 nF'))){nG':Tok} (Q_:PySem.W.nsIn K mainGlobals "MOST_STATES" = some (some (.int 20 nG'))){nH':Tok} (Ra:PySem.W.nsIn K mainGlobals "MOST_STEPS" = some (some (.int 80 nH'))){nI':Tok} (Rb:PySem.W.nsIn K mainGlobals "MOST_OPEN_DEEDS" = some (some (.int 6 nI'))){nJ':Tok} (Rc:PySem.W.nsIn K mainGlobals "FIGURES" = some (some (.str "0123456789" nJ'))){nK':Tok} (Rf:PySem.W.nsIn K mainGlobals "MOST_FIGURES" = some (some (.int 4 nK'))){AF:Addr} (ZN:PySem.W.nsIn K mainGlobals "KinError" = some (some (.ref AF))){TV:Addr} (ZO:PySem.W.nsIn K mainGlobals "NoDeed" = some (some (.ref TV))){TX:Addr} (ZP:PySem.W.nsIn K mainGlobals "NoFrame" = some (some (.ref TX))){kU:Addr} (ZQ:PySem.W.nsIn K mainGlobals "NoMachine" = some (some (.ref kU))){TY:Addr} (ZR:PySem.W.nsIn K mainGlobals "NoName" = some (some (.ref TY))){T1:Addr} (ZS:PySem.W.nsIn K mainGlobals "NoRow" = some (some (.ref T1))){T2:Addr} (ZT:PySem.W.nsIn K mainGlobals "NoScroll" = some (some (.ref T2))){T3:Addr} (ZU:PySem.W.nsIn K mainGlobals "NoState" = some (some (.ref T3))){kX:Addr} (ZV:PySem.W.nsIn K mainGlobals "NoText" = some (some (.ref kX))){ly:Addr} (ZW:PySem.W.nsIn K mainGlobals "TooBig" = some (some (.ref ly)))(ZX:PySem.W.excIn K AF [.type "ValueError",.type "Exception",.type "BaseException",.type "object"] "ValueError.__new__" = true) (ZY:PySem.W.findIn K (.ref AF) "__getattr__" = some none) (ZZ:PySem.W.findIn K (.ref AF) "__getattribute__" = some (some (.builtin "BaseException.__getattribute__"))) (Z0:PySem.W.findIn K (.ref AF) "__class__" = some (some (.builtin "object.__class__"))) (Z1:PySem.W.mroIn K AF (.type "object")=some true)(Z2:PySem.W.excIn K kU [.type "ValueError",.type "Exception",.type "BaseException",.type "object"] "ValueError.__new__" = true) (Z3:PySem.W.findIn K (.ref kU) "__getattr__" = some none) (Z4:PySem.W.findIn K (.ref kU) "__getattribute__" = some (some (.builtin "BaseException.__getattribute__"))) (Z5:PySem.W.findIn K (.ref kU) "__class__" = some (some (.builtin "object.__class__"))) (Z6:PySem.W.mroIn K kU (.type "object")=some true)(Z7:PySem.W.excIn K kX [.type "ValueError",.type "Exception",.type "BaseException",.type "object"] "ValueError.__new__" = true) (Z8:PySem.W.findIn K (.ref kX) "__getattr__" = some none) (Z9:PySem.W.findIn K (.ref kX) "__getattribute__" = some (some (.builtin "BaseException.__getattribute__"))) (Z_:PySem.W.findIn K (.ref kX) "__class__" = some (some (.builtin "object.__class__"))) (aa':PySem.W.mroIn K kX (.type "object")=some true)(ab':PySem.W.excIn K ly [.type "ValueError",.type "Exception",.type "BaseException",.type "object"] "ValueError.__new__" = true) (ac':PySem.W.findIn K (.ref ly) "__getattr__" = some none) (ad':PySem.W.findIn K (.ref ly) "__getattribute__" = some (some (.builtin "BaseException.__getattribute__"))) (ae':PySem.W.findIn K (.ref ly) "__class__" = some (some (.builtin "object.__class__"))) (af':PySem.W.mroIn K ly (.type "object")=some true)(ag':PySem.W.mroIn K kU (.ref AF)=some true)(ah':PySem.W.kitOne K (.ref kU) (.ref ly)=some false)(ai':PySem.W.kitOne K (.ref kU) (.ref kU)=some true)(aj':PySem.W.kitOne K (.ref kU) (.ref kX)=some false)(ak':PySem.W.kitOne K (.ref kU) (.ref T2)=some false)(al':PySem.W.kitOne K (.ref kU) (.ref TX)=some false)(am':PySem.W.kitOne K (.ref kU) (.ref TV)=some false)(an':PySem.W.kitOne K (.ref kU) (.ref T3)=some false)(ao':PySem.W.kitOne K (.ref kU) (.ref T1)=some false)(ap':PySem.W.kitOne K (.ref kU) (.ref TY)=some false)(aq':PySem.W.kitOne K (.ref kU) (.type "ValueError")=some true)(ar':PySem.W.mroIn K kX (.ref AF)=some true)(au':PySem.W.kitOne K (.ref kX) (.ref ly)=some false)(av':PySem.W.kitOne K (.ref kX) (.ref kU)=some false)(aw':PySem.W.kitOne K (.ref kX) (.ref kX)=some true)(ax':PySem.W.kitOne K (.ref kX) (.ref T2)=some false)(ay':PySem.W.kitOne K (.ref kX) (.ref TX)=some false)(az':PySem.W.kitOne K (.ref kX) (.ref TV)=some false)(aA':PySem.W.kitOne K (.ref kX) (.ref T3)=some false)(aB':PySem.W.kitOne K (.ref kX) (.ref T1)=some false)(aC':PySem.W.kitOne K (.ref kX) (.ref TY)=some false)(aD':PySem.W.kitOne K (.ref kX) (.type "ValueError")=some true)(aE':PySem.W.mroIn K ly (.ref AF)=some true)(aF':PySem.W.kitOne K (.ref ly) (.ref ly)=some true)(aG':PySem.W.kitOne K (.ref ly) (.ref kU)=some false)(aH':PySem.W.kitOne K (.ref ly) (.ref kX)=some false)(aI':PySem.W.kitOne K (.ref ly) (.ref T2)=some false)(aJ':PySem.W.kitOne K (.ref ly) (.ref TX)=some false)(aK':PySem.W.kitOne K (.ref ly) (.ref TV)=some false)(aL':PySem.W.kitOne K (.ref ly) (.ref T3)=some false)(aM':PySem.W.kitOne K (.ref ly) (.ref T1)=some false)(aN':PySem.W.kitOne K (.ref ly) (.ref TY)=some false)(aO':PySem.W.kitOne K (.ref ly) (.type "ValueError")=some true)
  : ∃ fd:FuncData,(∀ (s:Shared) (v:Value),BindsTo s fd ⟨[v],[]⟩ [("_law_script",v)])/\∀ base:Heap,K.In base->base.Ns mainGlobals mg->fi l.prog w K mg base iO 8 fa fd ["_law_script"] (aA K JJ):=by
 have e:=hfa.symm.trans (PySem.W.mg_of X G ZJ);cases e;have nL':=PySem.W.mg_of X G ZN;have aP':=PySem.W.mg_of X G ZO;have aQ':=PySem.W.mg_of X G ZP;have Rj:=PySem.W.mg_of X G ZQ;have aR':=PySem.W.mg_of X G ZR;have aS':=PySem.W.mg_of X G ZS;have aT':=PySem.W.mg_of X G ZT;have aU':=PySem.W.mg_of X G ZU;have Rk:=PySem.W.mg_of X G ZV;have Rl:=PySem.W.mg_of X G ZW;have nM':mn K AF:=⟨ZX,ZY,ZZ,Z0,Z1⟩
 have eX':mn K kU:=⟨Z2,Z3,Z4,Z5,Z6⟩
 have eY':mn K kX:=⟨Z7,Z8,Z9,Z_,aa'⟩
 have eZ':mn K ly:=⟨ab',ac',ad',ae',af'⟩
 have each:∀ {G:Str->Addr->Prop},G "NoMachine" kU->G "NoText" kX->G "TooBig" ly->∀ n C,n∈rn->mg n=some (.ref C)->G n C:=by
  intro G nN' nO' nP' n C hn hm;simp only[rn,dc,xo,or_false] at hn;rcases hn with rfl|rfl|rfl
  ·rw[Rj] at hm;cases hm;exact nN'
  ·rw[Rk] at hm;cases hm;exact nO'
  ·rw[Rl] at hm;cases hm;exact nP'
 have T:Txt K mg:=⟨PySem.W.mg_none_of X G P8,PySem.W.mg_none_of X G JY,PySem.W.mg_none_of X G P9,PySem.W.mg_none_of X G AB,PySem.W.mg_none_of X G kS,PySem.W.mg_none_of X G iF,PySem.W.mg_none_of X G Kb,PySem.W.mg_none_of X G Qb,PySem.W.mg_none_of X G Qr,PySem.W.mg_none_of X G QN,PySem.W.mg_none_of X G Ki,PySem.W.mg_none_of X G FI,PySem.W.mg_none_of X G tf,PySem.W.mg_none_of X G QY,⟨_,PySem.W.mg_of X G Q7⟩,⟨_,PySem.W.mg_of X G Q8⟩,⟨_,PySem.W.mg_of X G Q9⟩,⟨_,PySem.W.mg_of X G Q_⟩,⟨_,PySem.W.mg_of X G Ra⟩,⟨_,PySem.W.mg_of X G Rb⟩,⟨_,PySem.W.mg_of X G Rc⟩,⟨_,PySem.W.mg_of X G Rf⟩,⟨_,Rj,eX'⟩,⟨_,Rk,eY'⟩,⟨_,Rl,eZ'⟩,⟨_,nL',nM',each ⟨eX',ag'⟩ ⟨eY',ar'⟩ ⟨eZ',aE'⟩⟩,each ⟨_,Rl,ah'⟩ ⟨_,Rl,au'⟩ ⟨_,Rl,aF'⟩,each ⟨_,Rj,ai'⟩ ⟨_,Rj,av'⟩ ⟨_,Rj,aG'⟩,each ⟨_,Rk,aj'⟩ ⟨_,Rk,aw'⟩ ⟨_,Rk,aH'⟩,each ⟨_,aT',ak'⟩ ⟨_,aT',ax'⟩ ⟨_,aT',aI'⟩,each ⟨_,aQ',al'⟩ ⟨_,aQ',ay'⟩ ⟨_,aQ',aJ'⟩,each ⟨_,aP',am'⟩ ⟨_,aP',az'⟩ ⟨_,aP',aK'⟩,each ⟨_,aU',an'⟩ ⟨_,aU',aA'⟩ ⟨_,aU',aL'⟩,each ⟨_,aS',ao'⟩ ⟨_,aS',aB'⟩ ⟨_,aS',aM'⟩,each ⟨_,aR',ap'⟩ ⟨_,aR',aC'⟩ ⟨_,aR',aN'⟩,each aq' aD' aO'⟩
 have F0:=ja (st:=eO) l0 c0 k0;have F1:=ja (st:=fQ) l1 c1 k1;have F2:=ja (st:=dZ) l2 c2 k2;have F3:=ja (st:=d_) l3 c3 k3;have F4:=ja (st:=fX) l4 c4 k4;have F5:=ja (st:=aR) l5 c5 k5;have F6:=ja (st:=aL) l6 c6 k6;have F7:=ja (st:=iJ) l7 c7 k7;have F8:=ja (st:=du) l8 c8 k8;have F9:=ja (st:=cO) l9 c9 k9;have F10:=ja (st:=aU) l10 Wx Wy;have F11:=ja (st:=bA) WB WC WD;have F12:=ja (st:=bB) WK WL WM;have F13:=ja (st:=aW) WQ WR IY;have F14:=ja (st:=iD) WV WW WX;have F15:=ja (st:=bR) WZ W0 W3;have F16:=ja (st:=di) W5 c16 W6;have F17:=ja (st:=eE) W8 W9 W_;have F18:=ja (st:=b8) Zb Zc Zd;have F19:=ja (st:=dB) Zf Zg Zh;have F20:=ja (st:=bZ) Zj Zk Zm;have F21:=ja (st:=aY) Zo Zq Zr;have F22:=ja (st:=bw) IE Zu Zv;have F23:=ja (st:=cQ) Zx Zy AZ;have F24:=ja (st:=dw) ZC ZD ZE;have F25:=ja (st:=bY) ZG ZH ZI;have F26:=ja (st:=rB) ZK ZL ZM;refine⟨PySem.W.fnOf "law" "law" (gi rB) (eM rB) (bG rB) .none v26 j26 p26 e26 r26 u26,λs v=>.of_eq rfl,λbase _ _=>?_⟩;have C0:dP l.prog w K mg base 1 "is_open" ["thing"] (aA K b_):=F0.ox (PySem.W.mg_of X G a0) (yM F0 T ) λ_ _ _ _ _ _ us hl=>by obtain⟨_,rfl⟩:=nk hl;rfl
 have C2:dP l.prog w K mg base 1 "is_whole" ["thing"] (aA K bO):=F2.ox (PySem.W.mg_of X G a2) (wF F2 T ) λ_ _ _ _ _ _ us hl=>by obtain⟨_,rfl⟩:=nk hl;rfl
 have C8:dP l.prog w K mg base 1 "deeds_of" ["m"] (aA K cN):=F8.ox (PySem.W.mg_of X G a8) (vU F8 T ) λ_ _ _ _ _ _ us hl=>by obtain⟨_,rfl⟩:=nk hl;rfl
 have C9:dP l.prog w K mg base 1 "is_number" ["word"] (aA K bU):=F9.ox (PySem.W.mg_of X G a9) (uc F9 T ) λ_ _ _ _ _ _ us hl=>by obtain⟨_,rfl⟩:=nk hl;rfl
 have C15:dP l.prog w K mg base 1 "_law_cell_at" ["_law_script", "_law_k"] (aA K aV):=F15.ox (PySem.W.mg_of X G WY) (n_ F15 T ) λ_ _ _ _ _ _ us hl=>by obtain⟨_,_,rfl⟩:=Kk hl;rfl
 have C16:dP l.prog w K mg base 1 "_law_sign" ["_law_cell"] (aA K bK):=F16.ox (PySem.W.mg_of X G W4) (uU F16 T ) λ_ _ _ _ _ _ us hl=>by obtain⟨_,rfl⟩:=nk hl;rfl
 have C18:dP l.prog w K mg base 1 "_law_number" ["_law_cell"] (aA K bz):=F18.ox (PySem.W.mg_of X G Za) (pB F18 T ) λ_ _ _ _ _ _ us hl=>by obtain⟨_,rfl⟩:=nk hl;rfl
 have C21:dP l.prog w K mg base 1 "_law_is_number" ["_law_word"] (aA K aN):=F21.ox (PySem.W.mg_of X G Zn) (jP F21 T ) λ_ _ _ _ _ _ us hl=>by obtain⟨_,rfl⟩:=nk hl;rfl
 have C22:dP l.prog w K mg base 1 "_law_is_deed" ["_law_word"] (aA K bC):=F22.ox (PySem.W.mg_of X G Zt) (nq F22 T ) λ_ _ _ _ _ _ us hl=>by obtain⟨_,rfl⟩:=nk hl;rfl
 have C1:dP l.prog w K mg base 2 "is_deed" ["thing"] (aA K cj):=F1.ox (PySem.W.mg_of X G a1) (yO F1 T C0) λ_ _ _ _ _ _ us hl=>by obtain⟨_,rfl⟩:=nk hl;rfl
 have C3:dP l.prog w K mg base 2 "is_state" ["many", "thing"] (aA K cM):=F3.ox (PySem.W.mg_of X G a3) (wg F3 T C2) λ_ _ _ _ _ _ us hl=>by obtain⟨_,_,rfl⟩:=Kk hl;rfl
 have C6:iX l.prog w K mg base rn 2 "check_bounds" ["m"] bj:=eK.D1 F6 (PySem.W.mg_of X G a6) (oG F6 T C8 C0) λ_ _ _ _ _ _ us hl=>by obtain⟨_,rfl⟩:=nk hl;rfl
 have C10:iX l.prog w K mg base rn 2 "read_number" ["word"] aK:=eK.D1 F10 (PySem.W.mg_of X G Ww) (pN F10 T C9) λ_ _ _ _ _ _ us hl=>by obtain⟨_,rfl⟩:=nk hl;rfl
 have C17:dP l.prog w K mg base 2 "_law_odd" ["_law_cell"] (aA K dh):=F17.ox (PySem.W.mg_of X G W7) (wy F17 T C16) λ_ _ _ _ _ _ us hl=>by obtain⟨_,rfl⟩:=nk hl;rfl
 have C19:dP l.prog w K mg base 2 "_law_made" ["_law_script"] (aA K cP):=F19.ox (PySem.W.mg_of X G Ze) (tU F19 T C15 C18) λ_ _ _ _ _ _ us hl=>by obtain⟨_,rfl⟩:=nk hl;rfl
 have C20:dP l.prog w K mg base 2 "_law_spoilt" ["_law_text", "_law_cell"] (aA K bQ):=F20.ox (PySem.W.mg_of X G Zi) (pA F20 T C16) λ_ _ _ _ _ _ us hl=>by obtain⟨_,_,rfl⟩:=Kk hl;rfl
 have C23:dP l.prog w K mg base 2 "_law_parts" ["_law_text"] (aA K bL):=F23.ox (PySem.W.mg_of X G Zw) (sV F23 T C21 C22) λ_ _ _ _ _ _ us hl=>by obtain⟨_,rfl⟩:=nk hl;rfl
 have C4:dP l.prog w K mg base 3 "is_step" ["many", "thing"] (aA K dq):=F4.ox (PySem.W.mg_of X G a4) (zg F4 T C3 C1) λ_ _ _ _ _ _ us hl=>by obtain⟨_,_,rfl⟩:=Kk hl;rfl
 have C11:iX l.prog w K mg base rn 3 "read_deed" ["word"] bV:=eK.D1 F11 (PySem.W.mg_of X G Wz) (tM F11 T C1) λ_ _ _ _ _ _ us hl=>by obtain⟨_,rfl⟩:=nk hl;rfl
 have C24:dP l.prog w K mg base 3 "_law_due" ["_law_text"] (aA K cJ):=F24.ox (PySem.W.mg_of X G Zz) (vV F24 T C23) λ_ _ _ _ _ _ us hl=>by obtain⟨_,rfl⟩:=nk hl;rfl
 have C5:iX l.prog w K mg base rn 4 "check_parts" ["many", "steps"] bu:=eK.D1 F5 (PySem.W.mg_of X G a5) (pJ F5 T C2 C4) λ_ _ _ _ _ _ us hl=>by obtain⟨_,_,rfl⟩:=Kk hl;rfl
 have C12:iX l.prog w K mg base rn 4 "read_step" ["text"] bH:=eK.D1 F12 (PySem.W.mg_of X G WH) (uO F12 T C10 C11) λ_ _ _ _ _ _ us hl=>by obtain⟨_,rfl⟩:=nk hl;rfl
 have C7:iX l.prog w K mg base rn 5 "made" ["many", "steps"] je:=eK.D1 F7 (PySem.W.mg_of X G a7) (Gh F7 T C5 C6) λ_ _ _ _ _ _ us hl=>by obtain⟨_,_,rfl⟩:=Kk hl;rfl
 have C13:iX l.prog w K mg base rn 5 "read_steps" ["text"] bN:=eK.D1 F13 (PySem.W.mg_of X G WN) (sZ F13 T C12) λ_ _ _ _ _ _ us hl=>by obtain⟨_,rfl⟩:=nk hl;rfl
 have C14:iX l.prog w K mg base rn 6 "read" ["text"] jU:=eK.D1 F14 (PySem.W.mg_of X G WU) (HQ F14 T C10 C13 C7) λ_ _ _ _ _ _ us hl=>by obtain⟨_,rfl⟩:=nk hl;rfl
 have C25:dP l.prog w K mg base 7 "_law_asked" ["_law_text"] (aA K bM):=F25.ox (PySem.W.mg_of X G ZF) (sS F25 T C14) λ_ _ _ _ _ _ us hl=>by obtain⟨_,rfl⟩:=nk hl;rfl
 exact mV' F26 T C19 C20 C17 C15 C25 C24
theorem walk{l:PySem.W.OpenLaw}{q:Program}{loose:List Str}{XP:(Str->Option Value)->Heap->Prop}{YP:World->Heap->Prop}{d:DefRec}{K:Params->PySem.W.Frag}(hn:l.most=some 63)(MV:d.params.defaults=[])(hY:∀ (w:World) (h:Heap),YP w h->(K w.params).In h)(F:∀ (w:World) (mg:Str->Option Value) (fa:Addr) (h:Heap),(K w.params).In h->h.Ns mainGlobals mg->mg d.name=some (.ref fa) ->
   ∃ fd:FuncData,(∀ (s:Shared) (u:Value),BindsTo s fd ⟨[u],[]⟩ [("_law_script",u)])/\∀ base:Heap,(K w.params).In base->base.Ns mainGlobals mg->fi l.prog w (K w.params) mg base iO 8 fa fd ["_law_script"] (aA (K w.params) JJ)) :
  PySem.W.WalkO q loose XP YP l.row.toRowW d [] (λf vs=>PySem.call f vs) :=
 L2.jk' (n:=63) (k:=8) (x := "_law_script") (CX:=λ_=>iO) (sp:=λw=>aA (K w.params) JJ) hn (by decide) MV ⟨rfl,by decide,by decide⟩ hY F (λw H a ns hl hO hS=>Ed hl hS) λ_ _ _ _ _ z=>z
end L2.Q.Wc
open PySem PySem.W PyProof.Rows
namespace PySem.W.Fast
def tw1072260513150205021:=0
def tw565985309368183545:=0
def tw11389477296400734840:=0
def tw11541453266208696137:=0
def tw17102579255604446253:=0
def tw9850789169698154501:=0
def tw1508137258518916436:=0
def tw7614331331822091271:=0
def tw6281312408200549906:=0
def tw17780594153135193658:=0
def tw8060067039312268147:=0
def tw8066731187203083395:=0
def tw10708815839791916310:=0
def tw8076826532034486365:=0
def tw5236867860377866558:=0
def tw1483833138836477800:=0
def tw5220309312770321809:=0
def tw498234181640818151:=0
def tw17180558166439554122:=0
def tw17756440314413822180:=0
def tw17228946518249702893:=0
def tw3741830192414754886:=0
def tw13409351783644687061:=0
def tw16110759639166169389:=0
def tw1739068827589232550:=0
def tw3269314015413554156:=0
def tw2772367120571321539:=0
def tw6404910879262394488:=0
def tw2539842478588229706:=0
def tw3117747899518694337:=0
def tw9013037442439460892:=0
def tw17263964023050695027:=0
def tw15991889574891888093:=0
def tw15818593991591423032:=0
def tw8033544783148301944:=0
def tw14708287733162118692:=0
def tw12867753699820018122:=0
def tw16951251793648865896:=0
def tw11544752840778980978:=0
def tw1969014941075470905:=0
end PySem.W.Fast
set_option maxRecDepth 100000 in
set_option maxHeartbeats 0 in
theorem PySem.Challenge.cw_kinlook_k10_texts_refused_holds : PySem.Challenge.rw_kinlook_k10_texts_refused.Holds := by
 w_on;o_law;k_head;(case hw=>w_witness2)
 k_fill
 refine L2.Q.Wc.walk (l:=PySem.Challenge.rw_kinlook_k10_texts_refused) rfl rfl (λw h Y=>PySem.W.kIn_of Y) ?F
 case F =>
  intro w mg fa h KX G MX
  refine' L2.Q.Wc.all_mk KX G MX ?a0 ?l0 ?c0 ?k0 ?a1 ?l1 ?c1 ?k1 ?a2 ?l2 ?c2 ?k2 ?a3 ?l3 ?c3 ?k3 ?a4 ?l4 ?c4 ?k4 ?a5 ?l5 ?c5 ?k5 ?a6 ?l6 ?c6 ?k6 ?a7 ?l7 ?c7 ?k7 ?a8 ?l8 ?c8 ?k8 ?a9 ?l9 ?c9 ?k9 ?Ww ?l10 ?Wx ?Wy ?Wz ?WB ?WC ?WD ?WH ?WK ?WL ?WM ?WN ?WQ ?WR ?IY ?WU ?WV ?WW ?WX ?WY ?WZ ?W0 ?W3 ?W4 ?W5 ?c16 ?W6 ?W7 ?W8 ?W9 ?W_ ?Za ?Zb ?Zc ?Zd ?Ze ?Zf ?Zg ?Zh ?Zi ?Zj ?Zk ?Zm ?Zn ?Zo ?Zq ?Zr ?Zt ?IE ?Zu ?Zv ?Zw ?Zx ?Zy ?AZ ?Zz ?ZC ?ZD ?ZE ?ZF ?ZG ?ZH ?ZI ?ZJ ?ZK ?ZL ?ZM ?P8 ?JY ?P9 ?AB ?kS ?iF ?Kb ?Qb ?Qr ?QN ?Ki ?FI ?tf ?QY ?Q7 ?Q8 ?Q9 ?Q_ ?Ra ?Rb ?Rc ?Rf ?ZN ?ZO ?ZP ?ZQ ?ZR ?ZS ?ZT ?ZU ?ZV ?ZW ?ZX ?ZY ?ZZ ?Z0 ?Z1 ?Z2 ?Z3 ?Z4 ?Z5 ?Z6 ?Z7 ?Z8 ?Z9 ?Z_ ?aa' ?ab' ?ac' ?ad' ?ae' ?af' ?ag' ?ah' ?ai' ?aj' ?ak' ?al' ?am' ?an' ?ao' ?ap' ?aq' ?ar' ?au' ?av' ?aw' ?ax' ?ay' ?az' ?aA' ?aB' ?aC' ?aD' ?aE' ?aF' ?aG' ?aH' ?aI' ?aJ' ?aK' ?aL' ?aM' ?aN' ?aO'
  (case a0=>k_is)
  (case l0=>k_is)
  (case c0=>k_is)
  (case k0=>k_is)
  (case a1=>k_is)
  (case l1=>k_is)
  (case c1=>k_is)
  (case k1=>k_is)
  (case a2=>k_is)
  (case l2=>k_is)
  (case c2=>k_is)
  (case k2=>k_is)
  (case a3=>k_is)
  (case l3=>k_is)
  (case c3=>k_is)
  (case k3=>k_is)
  (case a4=>k_is)
  (case l4=>k_is)
  (case c4=>k_is)
  (case k4=>k_is)
  (case a5=>k_is)
  (case l5=>k_is)
  (case c5=>k_is)
  (case k5=>k_is)
  (case a6=>k_is)
  (case l6=>k_is)
  (case c6=>k_is)
  (case k6=>k_is)
  (case a7=>k_is)
  (case l7=>k_is)
  (case c7=>k_is)
  (case k7=>k_is)
  (case a8=>k_is)
  (case l8=>k_is)
  (case c8=>k_is)
  (case k8=>k_is)
  (case a9=>k_is)
  (case l9=>k_is)
  (case c9=>k_is)
  (case k9=>k_is)
  (case Ww=>k_is)
  (case l10=>k_is)
  (case Wx=>k_is)
  (case Wy=>k_is)
  (case Wz=>k_is)
  (case WB=>k_is)
  (case WC=>k_is)
  (case WD=>k_is)
  (case WH=>k_is)
  (case WK=>k_is)
  (case WL=>k_is)
  (case WM=>k_is)
  (case WN=>k_is)
  (case WQ=>k_is)
  (case WR=>k_is)
  (case IY=>k_is)
  (case WU=>k_is)
  (case WV=>k_is)
  (case WW=>k_is)
  (case WX=>k_is)
  (case WY=>k_is)
  (case WZ=>k_is)
  (case W0=>k_is)
  (case W3=>k_is)
  (case W4=>k_is)
  (case W5=>k_is)
  (case c16=>k_is)
  (case W6=>k_is)
  (case W7=>k_is)
  (case W8=>k_is)
  (case W9=>k_is)
  (case W_=>k_is)
  (case Za=>k_is)
  (case Zb=>k_is)
  (case Zc=>k_is)
  (case Zd=>k_is)
  (case Ze=>k_is)
  (case Zf=>k_is)
  (case Zg=>k_is)
  (case Zh=>k_is)
  (case Zi=>k_is)
  (case Zj=>k_is)
  (case Zk=>k_is)
  (case Zm=>k_is)
  (case Zn=>k_is)
  (case Zo=>k_is)
  (case Zq=>k_is)
  (case Zr=>k_is)
  (case Zt=>k_is)
  (case IE=>k_is)
  (case Zu=>k_is)
  (case Zv=>k_is)
  (case Zw=>k_is)
  (case Zx=>k_is)
  (case Zy=>k_is)
  (case AZ=>k_is)
  (case Zz=>k_is)
  (case ZC=>k_is)
  (case ZD=>k_is)
  (case ZE=>k_is)
  (case ZF=>k_is)
  (case ZG=>k_is)
  (case ZH=>k_is)
  (case ZI=>k_is)
  (case ZJ=>k_is)
  (case ZK=>k_is)
  (case ZL=>k_is)
  (case ZM=>k_is)
  (case P8=>k_is)
  (case JY=>k_is)
  (case P9=>k_is)
  (case AB=>k_is)
  (case kS=>k_is)
  (case iF=>k_is)
  (case Kb=>k_is)
  (case Qb=>k_is)
  (case Qr=>k_is)
  (case QN=>k_is)
  (case Ki=>k_is)
  (case FI=>k_is)
  (case tf=>k_is)
  (case QY=>k_is)
  (case Q7=>k_is)
  (case Q8=>k_is)
  (case Q9=>k_is)
  (case Q_=>k_is)
  (case Ra=>k_is)
  (case Rb=>k_is)
  (case Rc=>k_is)
  (case Rf=>k_is)
  (case ZN=>k_is)
  (case ZO=>k_is)
  (case ZP=>k_is)
  (case ZQ=>k_is)
  (case ZR=>k_is)
  (case ZS=>k_is)
  (case ZT=>k_is)
  (case ZU=>k_is)
  (case ZV=>k_is)
  (case ZW=>k_is)
  (case ZX=>k_exc)
  (case ZY=>k_is)
  (case ZZ=>k_is)
  (case Z0=>k_is)
  (case Z1=>k_is)
  (case Z2=>k_exc)
  (case Z3=>k_is)
  (case Z4=>k_is)
  (case Z5=>k_is)
  (case Z6=>k_is)
  (case Z7=>k_exc)
  (case Z8=>k_is)
  (case Z9=>k_is)
  (case Z_=>k_is)
  (case aa'=>k_is)
  (case ab'=>k_exc)
  (case ac'=>k_is)
  (case ad'=>k_is)
  (case ae'=>k_is)
  (case af'=>k_is)
  (case ag'=>k_is)
  (case ah'=>kit_is)
  (case ai'=>kit_is)
  (case aj'=>kit_is)
  (case ak'=>kit_is)
  (case al'=>kit_is)
  (case am'=>kit_is)
  (case an'=>kit_is)
  (case ao'=>kit_is)
  (case ap'=>kit_is)
  (case aq'=>kit_is)
  (case ar'=>k_is)
  (case au'=>kit_is)
  (case av'=>kit_is)
  (case aw'=>kit_is)
  (case ax'=>kit_is)
  (case ay'=>kit_is)
  (case az'=>kit_is)
  (case aA'=>kit_is)
  (case aB'=>kit_is)
  (case aC'=>kit_is)
  (case aD'=>kit_is)
  (case aE'=>k_is)
  (case aF'=>kit_is)
  (case aG'=>kit_is)
  (case aH'=>kit_is)
  (case aI'=>kit_is)
  (case aJ'=>kit_is)
  (case aK'=>kit_is)
  (case aL'=>kit_is)
  (case aM'=>kit_is)
  (case aN'=>kit_is)
  (case aO'=>kit_is)
