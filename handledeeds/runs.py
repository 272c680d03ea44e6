"""Runs of trees and of machines, asked alike."""


def run_answered(run, answers):
    """Run it, what's asked from without being answered as long as there's an answer: (outcome, trace)."""
    run.run()
    for value in answers:
        if run.outcome()[0] != "asks":
            break
        run.answer(value)
        run.run()
    return (run.outcome(), run.trace())
