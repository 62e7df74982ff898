"""The functions of the interface, each with its arguments, by their files."""

from onlyrisers import (alike, asks, bounds, chains, counts, forms, joins, risers, tables, texts,
                        weights)

INTERFACE = (
    (risers, ("is_riser(thing)", "is_stand(thing, riser)", "are_apart(thing, riser)",
              "holds(riser, stand)")),
    (tables, ("table(riser)", "fall_of(text)", "riser_of(text)")),
    (texts, ("show(riser)", "read(text)")),
    (bounds, ("greatest(riser)", "by_greatest(many, high)", "mirror(riser)",
              "is_paper(thing, many)")),
    (joins, ("either(one, other)", "both(one, other)", "is_below(one, other)",
             "held_on(riser, switch)", "held_off(riser, switch)", "mattering(riser)",
             "named(riser, order)")),
    (counts, ("holds_many(riser)", "by_sizes(riser)", "decides(riser)", "all_risers(many)",
              "between(one, other)")),
    (chains, ("are_chains(thing, many)", "few_chains(many)", "fewest(many)",
              "begins(riser, chains)", "riser_by(many, chains, numbers)")),
    (asks, ("are_answers(thing, many)", "clash_of(many, answers)", "known(many, answers, stand)",
            "open_stands(many, answers)", "least_fit(many, answers)",
            "greatest_fit(many, answers)", "due_asks(riser)", "leaves_none(riser, stands)",
            "asks_for(riser)")),
    (weights, ("by_weights(weights)", "are_weights(thing, riser)", "is_trade(thing, riser)",
               "weights_for(riser)", "trade_for(riser)")),
    (forms, ("is_form(thing, many)", "by_form(many, form)", "plain_form(riser)",
             "is_frugal(many, form)", "frugal_form(riser)")),
    (alike, ("keeping(riser)", "are_alike(one, other)", "naming(one, other)",
             "least_alike(riser)", "named_many(riser)", "kinds(many)")),
)
