"""Charts: the tokens of a graph as a text for the eye."""


def chart(graph):
    """A line for each token, with columns for the place, the word, first and last."""
    return "\n".join([f"{place:>4} {word:<10} {first:>3} {last:>3}" for place, word, first, last in graph.tokens])
