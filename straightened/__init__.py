"""Two numbers changed by polynomials, and what makes them straight again."""
