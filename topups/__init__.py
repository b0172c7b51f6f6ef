"""A pot that is topped up again and again, and the history that its content tells."""
